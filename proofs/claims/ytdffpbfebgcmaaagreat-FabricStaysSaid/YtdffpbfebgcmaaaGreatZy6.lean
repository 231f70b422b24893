import Derived.Test.YtdffpbfebgcmaaaGreatZz5
namespace Go.Proofs.YtdffpbfebgcmaaaGreat
open Go.RowKit
set_option linter.unusedVariables false
set_option linter.unusedSimpArgs false
section
variable {w w' : World} {B F : Nat} {f : Fb} {z : Fv}
set_option maxHeartbeats 8000000 in
set_option maxRecDepth 100000 in
theorem fbLoad (p : Pg) (S : Sta) (A : Option Addr) (c : Nat) (Q : Option Addr) (d : Nat) (At : Option Addr) (ct : Nat) (Ar : Option Addr) (cr : Nat) (B0 : Nat) (w : World) (h : PgAt w A c Q d p) (g : LdOk p S) (hts : OwnTs w B0 (.slice At p.ts.length ct) S.th) (hrs : OwnRs w B0 (.slice Ar p.rs.length cr) S.rg) :
  Calls Tryz.prog 28 #[.agg (pgC A c Q d p), .agg (stC (.slice At p.ts.length ct) (.slice Ar p.rs.length cr) S.now S.rds S.en)] w fun e w' => ∃ F z, e = .returned (.tuple #[.pointer (some ⟨F, 0, none⟩), .int .i64 0]) ∧ w.heap.size ≤ F ∧ FabAt w' w.heap.size F (ldF p S) z ∧ Below w.heap.size w w' := by
 have hb0 : Below w.heap.size w ((w.alloc (.cells (pgC A c Q d p) 25)).alloc (.cells (stC (.slice At p.ts.length ct) (.slice Ar p.rs.length cr) S.now S.rds S.en) 39)) := ((Below.refl _ _).alloc (Nat.le_refl _) _).alloc (by simp) _
 have l0 := (Lies.made w 25 (pgC A c Q d p)).alloc (.cells (stC (.slice At p.ts.length ct) (.slice Ar p.rs.length cr) S.now S.rds S.en) 39)
 have l1 := Lies.made (w.alloc (.cells (pgC A c Q d p) 25)) 39 (stC (.slice At p.ts.length ct) (.slice Ar p.rs.length cr) S.now S.rds S.en)
 rw [World.size_alloc] at l1
 have HNW := Lib.hid (fbNew p A c Q d _ (h.later hb0) g.hp g.hr)
 have HB0 := Lib.hid hb0
 have HL0 := Lib.hid l0
 have HL1 := Lib.hid l1
 have HH := Lib.hid h
 have G := Lib.hid g
 have HTS := Lib.hid hts
 have HRS := Lib.hid hrs
 have htl := g.tl
 have hrl := g.rl
 obtain ⟨hc1, hc2⟩ := seq_form h.1
 obtain ⟨hd1, hd2⟩ := h.2.form
 obtain ⟨a1, a2⟩ : p.ts.length ≤ ct ∧ ct ≤ 9223372036854775807 := by obtain ⟨ps, _, h2, _⟩ := hts; obtain ⟨A9, c9, e, g1, g2⟩ := owns_form h2; simp only [Value.slice.injEq, true_and] at e; omega
 obtain ⟨b1, b2⟩ : p.rs.length ≤ cr ∧ cr ≤ 9223372036854775807 := by obtain ⟨ps, _, h2, _⟩ := hrs; obtain ⟨A9, c9, e, g1, g2⟩ := owns_form h2; simp only [Value.slice.injEq, true_and] at e; omega
 have HTL : Hid (S.th.length = p.ts.length ∧ S.rg.length = p.rs.length) := ⟨htl, hrl⟩
 clear h l0 l1 hb0 g hts hrs htl hrl
 go_enter Tryz.func28, Tryz.ntmps28
 go_wp2_with fail
 generalize hW : (w.alloc (.cells (pgC A c Q d p) 25)).alloc (.cells (stC (.slice At p.ts.length ct) (.slice Ar p.rs.length cr) S.now S.rds S.en) 39) = w1 at *
 clear hW
 refine HNW.out.mono ?_
 rintro e w2 ⟨F, z, rfl, hF, hf, hb2⟩
 have HB2 := Lib.hid (HB0.out.trans (hb2.mono HB0.out.size))
 have HL02 := Lib.hid (HL0.out.below hb2 HL0.out.lt)
 have HL12 := Lib.hid (HL1.out.below hb2 HL1.out.lt)
 have HF2 := Lib.hid (hf.mono (B' := w.heap.size) HB0.out.size)
 have HFB : Hid (w.heap.size + 1 < F) := Nat.lt_of_lt_of_le HL1.out.lt hF
 clear hF hf hb2 HNW HB0 HL0 HL1
 go_upto_region 4 with (fail)
 obtain ⟨T, ct2, Sv, cs, L, cl, z1, z2, z3, d1, d2, d3⟩ := HF2.out.forms (newL_ok G.out.hp (by simp))
 replace z1 : z.tv = .slice T p.ts.length ct2 := z1
 replace z2 : z.sv = .slice Sv p.ts.length cs := z2
 replace z3 : z.lv = .slice L p.rs.length cl := z3
 replace d1 : p.ts.length ≤ ct2 ∧ ct2 ≤ 9223372036854775807 := d1
 replace d3 : p.rs.length ≤ cl ∧ cl ≤ 9223372036854775807 := d3
 have c2 := HF2.out.cells.2.2.1
 have c4 := HF2.out.cells.2.2.2.2.1
 rw [z1] at c2
 rw [z3] at c4
 have s0 := (HL12.out.cell 0).trans (show _ = some (Value.slice At p.ts.length ct) from rfl)
 have s1 := (HL12.out.cell 1).trans (show _ = some (Value.slice Ar p.rs.length cr) from rfl)
 have sl := HL12.out.lt
 have fl := HF2.out.lt
 have e0 : ((p.ts.length : Int) != (p.ts.length : Int)) = false := by simp
 have e1 : ((p.rs.length : Int) != (p.rs.length : Int)) = false := by simp
 go_quiet (fail)
 have HI : Hid (LdS w (pgC A c Q d p) (stC (.slice At p.ts.length ct) (.slice Ar p.rs.length cr) S.now S.rds S.en) F (newL p (mix (ldL p S) (p.rs.map laneO) 0)) z (w2.drewN nq)) := by
  rw [mix_zero]
  have hk := below_drewN (Below.refl w2.heap.size w2) nq
  exact ⟨HB2.out.trans (hk.mono HB2.out.size), HL02.out.below hk HL02.out.lt, HL12.out.below hk HL12.out.lt, HF2.out.later hk, HFB.out⟩
 clear c2 c4 s0 s1 sl fl HB2 HL02 HL12 HF2 HFB e0 e1
 generalize w2.drewN nq = w3 at *
 have s1 := (HI.out.sta.cell 1).trans (show _ = some (Value.slice Ar p.rs.length cr) from rfl)
 have sl := HI.out.sta.lt
 go_wp2_with fail
 clear s1 sl
 go_loopw [46] (fun u wr => ∃ i : Nat, i ≤ p.rs.length ∧ u = .int .i64 i ∧ Hid (LdS w (pgC A c Q d p) (stC (.slice At p.ts.length ct) (.slice Ar p.rs.length cr) S.now S.rds S.en) F (newL p (mix (ldL p S) (p.rs.map laneO) i)) z wr)) (fun u _ => p.rs.length - (intOf u).toNat)
 case atStart => exact ⟨0, by omega, rfl, HI⟩
 case round =>
  clear HI
  obtain ⟨i, hi, rfl, HI⟩ := hrel
  by_cases hlt : i < p.rs.length
  ·have hii : (i : Int) < (p.rs.length : Int) := by omega
   have hrl := HTL.out.2
   obtain ⟨r, hr⟩ : ∃ r, p.rs[i]? = some r := ⟨_, List.getElem?_eq_getElem hlt⟩
   obtain ⟨s, hs⟩ : ∃ s, S.rg[i]? = some s := ⟨_, List.getElem?_eq_getElem (by omega)⟩
   obtain ⟨hlb, hsi⟩ := G.out.rg i r s hr hs
   obtain ⟨T9, c9, A1, d1', A2, d2', e9, _, _, hT9, hRC⟩ := ownRs_at HRS.out hs
   rw [hrl] at e9
   simp only [Value.slice.injEq, true_and] at e9
   obtain ⟨rfl, rfl⟩ := e9
   have hsp := (rightP_all G.out.hr).2.1 r (List.mem_of_getElem? hr)
   obtain ⟨rb, ro, rfl, hrb, hrc⟩ := HH.out.1.at_ hr
   obtain ⟨k, sc, sr⟩ := r
   have hsp := of_decide_eq_true hsp
   dsimp only at hsp
   obtain ⟨cap, rfl⟩ : ∃ n : Nat, sc = n := ⟨sc.toNat, by omega⟩
   obtain ⟨rd, rfl⟩ : ∃ n : Nat, sr = n := ⟨sr.toNat, by omega⟩
   dsimp only at hlb
   rw [Int.toNat_natCast, Int.toNat_natCast] at hlb
   obtain ⟨hcc, hsq1, hsq2⟩ := hRC wr HI.out.bel
   have y0 := hcc 0 _ rfl
   have y1 := hcc 1 _ rfl
   have y2 := hcc 2 _ rfl
   have y3 := hcc 3 _ rfl
   rw [Nat.add_zero] at y0
   have hT9w := Nat.lt_of_lt_of_le hT9 HI.out.bel.size
   have x0 := (HI.out.bel.cell hrb).trans (hrc 0 _ (by decide) rfl)
   have x1 := (HI.out.bel.cell hrb).trans (hrc 1 _ (by decide) rfl)
   have x2 := (HI.out.bel.cell hrb).trans (hrc 2 _ (by decide) rfl)
   rw [Nat.add_zero] at x0
   have hrbw := Nat.lt_of_lt_of_le hrb HI.out.bel.size
   have hls := HI.out.sta.lt
   have HRG := Lib.hid hr
   have HSG := Lib.hid hs
   have HSP := Lib.hid hsp
   have HLB := Lib.hid hlb
   have HQ : Hid (SeqS wr 1 (.slice A1 s.hs.length d1') s.hs.length (cells64 s.hs) ∧ SeqS wr 3 (.slice A2 s.sl.length d2') s.sl.length (rowsOf slF s.sl) ∧ ∀ x ∈ s.sl, slIn x) := ⟨hsq1, hsq2, hsi⟩
   clear hr hs hlb hsi hRC hrc hsp hcc hsq1 hsq2
   have HBX : Hid (Below wr.heap.size wr (wr.alloc (.cells #[.int .u64 (s.tl : Int), .slice A1 s.hs.length d1', .bool false, .slice A2 s.sl.length d2'] 76))) := (Below.refl _ _).alloc (Nat.le_refl _) _
   have HLX := Lib.hid (Lies.made wr 76 #[.int .u64 (s.tl : Int), .slice A1 s.hs.length d1', .bool false, .slice A2 s.sl.length d2'])
   go_upto_region 11 with (fail)
   have HI4 := Lib.hid (HI.out.later HBX.out)
   have HQ4 : Hid (SeqS (wr.alloc (.cells #[.int .u64 (s.tl : Int), .slice A1 s.hs.length d1', .bool false, .slice A2 s.sl.length d2'] 76)) 1 (.slice A1 s.hs.length d1') s.hs.length (cells64 s.hs) ∧ SeqS (wr.alloc (.cells #[.int .u64 (s.tl : Int), .slice A1 s.hs.length d1', .bool false, .slice A2 s.sl.length d2'] 76)) 3 (.slice A2 s.sl.length d2') s.sl.length (rowsOf slF s.sl) ∧ ∀ x ∈ s.sl, slIn x) := ⟨HQ.out.1.later HBX.out, HQ.out.2.1.later HBX.out, HQ.out.2.2⟩
   clear y0 y1 y2 y3 hT9w x0 x1 x2 hrbw hls HBX HI HQ
   generalize wr.alloc (.cells #[.int .u64 (s.tl : Int), .slice A1 s.hs.length d1', .bool false, .slice A2 s.sl.length d2'] 76) = w4 at *
   generalize wr.heap.size = N9 at *
   have p0 := (HI4.out.box.cell 0).trans (show _ = some (Value.slice (some ⟨rb, ro, none⟩) p.rs.length c) from rfl)
   have pl := HI4.out.box.lt
   obtain ⟨rb2, ro2, hre, hrb2, hrc⟩ := HH.out.1.at_ HRG.out
   simp only [Option.some.injEq, Addr.mk.injEq, and_true] at hre
   obtain ⟨rfl, rfl⟩ := hre
   have x0 := (HI4.out.bel.cell hrb).trans (hrc 0 _ (by decide) rfl)
   have x1 := (HI4.out.bel.cell hrb).trans (hrc 1 _ (by decide) rfl)
   have x2 := (HI4.out.bel.cell hrb).trans (hrc 2 _ (by decide) rfl)
   rw [Nat.add_zero] at x0
   have hrbw := Nat.lt_of_lt_of_le hrb HI4.out.bel.size
   have r0 := (HLX.out.cell 0).trans (show _ = some (Value.int .u64 (s.tl : Int)) from rfl)
   have r1 := (HLX.out.cell 1).trans (show _ = some (Value.slice A1 s.hs.length d1') from rfl)
   have r2 := (HLX.out.cell 2).trans (show _ = some (Value.bool false) from rfl)
   have r3 := (HLX.out.cell 3).trans (show _ = some (Value.slice A2 s.sl.length d2') from rfl)
   have rl := HLX.out.lt
   clear hrc hrb2
   have HSP2 := HSP.out
   have HRL := Lib.hid (fun (q : World) (hq : Below w4.heap.size w4 q) => rgLoad k cap rd s.tl false s.hs s.sl A1 s.hs.length d1' A2 s.sl.length d2' q (by omega) (by omega) (by omega) (by omega) (by omega) (seqAt_of (HQ4.out.1.later hq)) (HQ4.out.2.1.later hq) HQ4.out.2.2)
   have HCC : Hid (∀ q, Below w4.heap.size w4 q → q.cell? ⟨w.heap.size, 0, none⟩ = some (.slice (some ⟨rb, ro, none⟩) p.rs.length c) ∧ q.cell? ⟨rb, ro + i * 3, none⟩ = some (.int .i64 k) ∧ q.cell? ⟨rb, ro + i * 3 + 1, none⟩ = some (.int .i64 (cap : Int)) ∧ q.cell? ⟨rb, ro + i * 3 + 2, none⟩ = some (.int .i64 (rd : Int)) ∧
     q.cell? ⟨N9, 0, none⟩ = some (.int .u64 (s.tl : Int)) ∧ q.cell? ⟨N9, 1, none⟩ = some (.slice A1 s.hs.length d1') ∧ q.cell? ⟨N9, 2, none⟩ = some (.bool false) ∧ q.cell? ⟨N9, 3, none⟩ = some (.slice A2 s.sl.length d2') ∧ w.heap.size < q.heap.size ∧ rb < q.heap.size ∧ N9 < q.heap.size) := fun q hq =>
    ⟨cell_later p0 hq, cell_later x0 hq, cell_later x1 hq, cell_later x2 hq, cell_later r0 hq, cell_later r1 hq, cell_later r2 hq, cell_later r3 hq, Nat.lt_of_lt_of_le pl hq.size, Nat.lt_of_lt_of_le hrbw hq.size, Nat.lt_of_lt_of_le rl hq.size⟩
   clear p0 pl x0 x1 x2 hrbw r0 r1 r2 r3 rl HSP2 HQ4 HLX
   refine wp_region_rely (fun q => Below w4.heap.size w4 q) (bfV [.eq (.pointer (some ⟨w.heap.size, 0, none⟩)), .eq (.slice (some ⟨rb, ro, none⟩) p.rs.length c), .eq (.int .i64 (i : Int)), .eq (.pointer (some ⟨rb, ro + i * 3, none⟩)), .eq (.agg #[.int .i64 k, .int .i64 (cap : Int), .int .i64 (rd : Int)]), .eq (.agg #[.int .u64 (s.tl : Int), .slice A1 s.hs.length d1', .bool false, .slice A2 s.sl.length d2']), .of (fun u q => ∃ g, u = .tuple #[.pointer (some ⟨g, 0, none⟩), .int .i64 0] ∧ w4.heap.size ≤ g ∧ RgAt q g 95 [] [] (loadR cap rd s.tl false s.hs s.sl)) (fun _ _ _ hb ⟨g, e, h1, h2⟩ => ⟨g, e, h1, h2.later hb⟩), .of (fun u q => ∃ g, u = .tuple #[.pointer (some ⟨g, 0, none⟩), .int .i64 0] ∧ w4.heap.size ≤ g ∧ RgAt q g 95 [] [] (loadR cap rd s.tl false s.hs s.sl)) (fun _ _ _ hb ⟨g, e, h1, h2⟩ => ⟨g, e, h1, h2.later hb⟩), .of (fun u q => ∃ g, u = .pointer (some ⟨g, 0, none⟩) ∧ w4.heap.size ≤ g ∧ RgAt q g 95 [] [] (loadR cap rd s.tl false s.hs s.sl)) (fun _ _ _ hb ⟨g, e, h1, h2⟩ => ⟨g, e, h1, h2.later hb⟩), .eq (.int .i64 0), .of (fun u q => ∃ g, u = .pointer (some ⟨g, 0, none⟩) ∧ w4.heap.size ≤ g ∧ RgAt q g 95 [] [] (loadR cap rd s.tl false s.hs s.sl)) (fun _ _ _ hb ⟨g, e, h1, h2⟩ => ⟨g, e, h1, h2.later hb⟩), .eq (.int .i64 0)]) [some 55, some 56, some 57, some 58, some 59, some 60, some 61, some 54, some 62, some 63, some 11, some 12] [[], [0], [], [1, 2], [3], [], [4, 5], [6], [7], [7], [8], [9]] [[], [0], [], [0, 1, 2], [1, 2, 3], [], [3, 4, 5], [4, 5, 6], [6], [6], [0, 1, 2, 3, 4, 5, 6, 8], [0, 1, 2, 3, 4, 5, 6, 7, 8, 9]] [[2, 3, 4, 5, 6, 7, 8, 9], [2, 4, 5, 6, 7, 8, 9], [0, 1, 4, 5, 6, 7, 8, 9], [5, 6, 7, 8, 9], [5, 7, 8, 9], [0, 1, 2, 3, 4, 7, 8, 9], [0, 8, 9], [0, 1, 2], [0, 1, 2, 3, 7, 9], [0, 1, 2, 3, 7, 8, 10], [7, 9], [10]] [0, 1, 2, 3, 4, 5, 6, 7, 8, 9, 10, 11] 12 (by kernel_rfl) (by kernel_rfl) (by kernel_rfl) (by kernel_rfl) ?rS (fun j h1 h2 => absurd (Nat.lt_of_lt_of_le h1 (Nat.le_trans (by decide) h2)) (Nat.lt_irrefl _)) ?rT ?rE
   case rS => exact below_drewN (Below.refl _ _) 1
   case rT =>
    refine RelySteps.cons (RelyStep.mk [] [2, 3, 4, 5, 6, 7, 8, 9] rfl rfl rfl (fun xv wS hS hV bq hb K hK => ?_)) ?_
    ·clear hV
     simp only [putsOf, List.foldl_cons, List.foldl_nil, List.getD_cons_zero, List.getD_cons_succ, List.getD_nil, cond_true, cond_false, Act.put, List.setIfInBounds_toArray, List.set_cons_zero, List.set_cons_succ] at hb
     subst hb
     rw [if_pos (by rfl)]
     go_wp2_with fail
     exact hK.out _ _ ⟨_, rfl, hS, rfl, AllP.same _⟩
    refine RelySteps.cons (RelyStep.mk [0] [2, 4, 5, 6, 7, 8, 9] rfl rfl rfl (fun xv wS hS hV bq hb K hK => ?_)) ?_
    ·obtain ⟨h0, _⟩ := hV
     have h0 : xv 0 = _ := h0
     simp only [putsOf, List.foldl_cons, List.foldl_nil, List.getD_cons_zero, List.getD_cons_succ, List.getD_nil, cond_true, cond_false, Act.put, List.setIfInBounds_toArray, List.set_cons_zero, List.set_cons_succ, h0] at hb
     clear h0
     subst hb
     rw [if_pos (by rfl)]
     (obtain ⟨p0, x0, x1, x2, r0, r1, r2, r3, q1, q2, q3⟩ := HCC.out _ hS)
     go_wp2_with fail
     exact hK.out _ _ ⟨_, rfl, hS, rfl, AllP.same _⟩
    refine RelySteps.cons (RelyStep.mk [] [0, 1, 4, 5, 6, 7, 8, 9] rfl rfl rfl (fun xv wS hS hV bq hb K hK => ?_)) ?_
    ·clear hV
     simp only [putsOf, List.foldl_cons, List.foldl_nil, List.getD_cons_zero, List.getD_cons_succ, List.getD_nil, cond_true, cond_false, Act.put, List.setIfInBounds_toArray, List.set_cons_zero, List.set_cons_succ] at hb
     subst hb
     rw [if_pos (by rfl)]
     go_wp2_with fail
     exact hK.out _ _ ⟨_, rfl, hS, rfl, AllP.same _⟩
    refine RelySteps.cons (RelyStep.mk [1, 2] [5, 6, 7, 8, 9] rfl rfl rfl (fun xv wS hS hV bq hb K hK => ?_)) ?_
    ·obtain ⟨h1, h2, _⟩ := hV
     have h1 : xv 1 = _ := h1
     have h2 : xv 2 = _ := h2
     simp only [putsOf, List.foldl_cons, List.foldl_nil, List.getD_cons_zero, List.getD_cons_succ, List.getD_nil, cond_true, cond_false, Act.put, List.setIfInBounds_toArray, List.set_cons_zero, List.set_cons_succ, h1, h2] at hb
     clear h1
     clear h2
     subst hb
     rw [if_pos (by rfl)]
     go_wp2_with fail
     exact hK.out _ _ ⟨_, rfl, hS, rfl, AllP.same _⟩
    refine RelySteps.cons (RelyStep.mk [3] [5, 7, 8, 9] rfl rfl rfl (fun xv wS hS hV bq hb K hK => ?_)) ?_
    ·obtain ⟨h3, _⟩ := hV
     have h3 : xv 3 = _ := h3
     simp only [putsOf, List.foldl_cons, List.foldl_nil, List.getD_cons_zero, List.getD_cons_succ, List.getD_nil, cond_true, cond_false, Act.put, List.setIfInBounds_toArray, List.set_cons_zero, List.set_cons_succ, h3] at hb
     clear h3
     subst hb
     rw [if_pos (by rfl)]
     (obtain ⟨p0, x0, x1, x2, r0, r1, r2, r3, q1, q2, q3⟩ := HCC.out _ hS)
     go_wp2_with fail
     exact hK.out _ _ ⟨_, rfl, hS, rfl, AllP.same _⟩
    refine RelySteps.cons (RelyStep.mk [] [0, 1, 2, 3, 4, 7, 8, 9] rfl rfl rfl (fun xv wS hS hV bq hb K hK => ?_)) ?_
    ·clear hV
     simp only [putsOf, List.foldl_cons, List.foldl_nil, List.getD_cons_zero, List.getD_cons_succ, List.getD_nil, cond_true, cond_false, Act.put, List.setIfInBounds_toArray, List.set_cons_zero, List.set_cons_succ] at hb
     subst hb
     rw [if_pos (by rfl)]
     (obtain ⟨p0, x0, x1, x2, r0, r1, r2, r3, q1, q2, q3⟩ := HCC.out _ hS)
     go_wp2_with fail
     exact hK.out _ _ ⟨_, rfl, hS, rfl, AllP.same _⟩
    refine RelySteps.cons (RelyStep.mk [4, 5] [0, 8, 9] rfl rfl rfl (fun xv wS hS hV bq hb K hK => ?_)) ?_
    ·obtain ⟨h4, h5, _⟩ := hV
     have h4 : xv 4 = _ := h4
     have h5 : xv 5 = _ := h5
     simp only [putsOf, List.foldl_cons, List.foldl_nil, List.getD_cons_zero, List.getD_cons_succ, List.getD_nil, cond_true, cond_false, Act.put, List.setIfInBounds_toArray, List.set_cons_zero, List.set_cons_succ, h4, h5] at hb
     clear h4
     clear h5
     subst hb
     rw [if_pos (by rfl)]
     have HSS := Lib.hid hS
     clear hS
     go_wp2_with fail
     refine (HRL.out wS HSS.out).mono ?_
     rintro e w5 ⟨hb5, hp5⟩
     unfold RLoadPost at hp5
     rw [if_pos HLB.out] at hp5
     obtain ⟨g, hg, rfl, hrg⟩ := hp5
     exact hK.out _ _ ⟨_, rfl, then_ HSS.out hb5, ⟨g, rfl, Nat.le_trans HSS.out.size hg, hrg⟩, AllP.of _ (fun j _ _ h => bfV_below hb5 h)⟩
    refine RelySteps.cons (RelyStep.mk [6] [0, 1, 2] rfl rfl rfl (fun xv wS hS hV bq hb K hK => ?_)) ?_
    ·obtain ⟨h6, _⟩ := hV
     simp only [putsOf, List.foldl_cons, List.foldl_nil, List.getD_cons_zero, List.getD_cons_succ, List.getD_nil, cond_true, cond_false, Act.put, List.setIfInBounds_toArray, List.set_cons_zero, List.set_cons_succ] at hb
     generalize xv 6 = y6 at *
     subst hb
     rw [if_pos (by rfl)]
     have HSS := Lib.hid hS
     obtain ⟨g, rfl, h1, h2⟩ := h6
     have H2 := Lib.hid (And.intro h1 h2)
     clear hS h1 h2
     go_wp2_with fail
     exact hK.out _ _ ⟨_, rfl, HSS.out, ⟨g, rfl, H2.out⟩, AllP.same _⟩
    refine RelySteps.cons (RelyStep.mk [7] [0, 1, 2, 3, 7, 9] rfl rfl rfl (fun xv wS hS hV bq hb K hK => ?_)) ?_
    ·obtain ⟨h7, _⟩ := hV
     simp only [putsOf, List.foldl_cons, List.foldl_nil, List.getD_cons_zero, List.getD_cons_succ, List.getD_nil, cond_true, cond_false, Act.put, List.setIfInBounds_toArray, List.set_cons_zero, List.set_cons_succ] at hb
     generalize xv 7 = y7 at *
     subst hb
     rw [if_pos (by rfl)]
     have HSS := Lib.hid hS
     obtain ⟨g, rfl, h1, h2⟩ := h7
     have H2 := Lib.hid (And.intro h1 h2)
     clear hS h1 h2
     go_wp2_with fail
     exact hK.out _ _ ⟨_, rfl, HSS.out, ⟨g, rfl, H2.out⟩, AllP.same _⟩
    refine RelySteps.cons (RelyStep.mk [7] [0, 1, 2, 3, 7, 8, 10] rfl rfl rfl (fun xv wS hS hV bq hb K hK => ?_)) ?_
    ·obtain ⟨h7, _⟩ := hV
     simp only [putsOf, List.foldl_cons, List.foldl_nil, List.getD_cons_zero, List.getD_cons_succ, List.getD_nil, cond_true, cond_false, Act.put, List.setIfInBounds_toArray, List.set_cons_zero, List.set_cons_succ] at hb
     generalize xv 7 = y7 at *
     subst hb
     rw [if_pos (by rfl)]
     have HSS := Lib.hid hS
     obtain ⟨g, rfl, h1, h2⟩ := h7
     clear hS h1 h2
     go_wp2_with fail
     exact hK.out _ _ ⟨_, rfl, HSS.out, rfl, AllP.same _⟩
    refine RelySteps.cons (RelyStep.mk [8] [7, 9] rfl rfl rfl (fun xv wS hS hV bq hb K hK => ?_)) ?_
    ·obtain ⟨h8, _⟩ := hV
     simp only [putsOf, List.foldl_cons, List.foldl_nil, List.getD_cons_zero, List.getD_cons_succ, List.getD_nil, cond_true, cond_false, Act.put, List.setIfInBounds_toArray, List.set_cons_zero, List.set_cons_succ] at hb
     generalize xv 8 = y8 at *
     subst hb
     rw [if_pos (by rfl)]
     have HSS := Lib.hid hS
     obtain ⟨g, rfl, h1, h2⟩ := h8
     have H2 := Lib.hid (And.intro h1 h2)
     clear hS h1 h2
     go_wp2_with fail
     exact hK.out _ _ ⟨_, rfl, HSS.out, ⟨g, rfl, H2.out⟩, AllP.same _⟩
    refine RelySteps.cons (RelyStep.mk [9] [10] rfl rfl rfl (fun xv wS hS hV bq hb K hK => ?_)) ?_
    ·obtain ⟨h9, _⟩ := hV
     have h9 : xv 9 = _ := h9
     simp only [putsOf, List.foldl_cons, List.foldl_nil, List.getD_cons_zero, List.getD_cons_succ, List.getD_nil, cond_true, cond_false, Act.put, List.setIfInBounds_toArray, List.set_cons_zero, List.set_cons_succ, h9] at hb
     clear h9
     subst hb
     rw [if_pos (by rfl)]
     go_wp2_with fail
     exact hK.out _ _ ⟨_, rfl, hS, rfl, AllP.same _⟩
    exact RelySteps.nil
   case rE =>
   intro xv wE hS hV
   have h10 := hV 10 (by decide) (by decide)
   have h11 := hV 11 (by decide) (by decide)
   clear hV
   simp only [putsOf, List.foldl_cons, List.foldl_nil, List.getD_cons_zero, List.getD_cons_succ, List.getD_nil, cond_true, cond_false, Act.put, List.setIfInBounds_toArray, List.set_cons_zero, List.set_cons_succ]
   have h11 : xv 11 = _ := h11
   rw [h11]; clear h11
   generalize xv 0 = y0 at *
   generalize xv 1 = y1 at *
   generalize xv 2 = y2 at *
   generalize xv 3 = y3 at *
   generalize xv 4 = y4 at *
   generalize xv 5 = y5 at *
   generalize xv 6 = y6 at *
   generalize xv 7 = y7 at *
   generalize xv 8 = y8 at *
   generalize xv 9 = y9 at *
   generalize xv 10 = y10 at *
   obtain ⟨g, rfl, hg, hrg⟩ := h10
   have HI5 := Lib.hid (HI4.out.later hS)
   have HR5 := Lib.hid hrg
   have HG5 : Hid (w.heap.size ≤ g) := Nat.le_trans HI4.out.bel.size hg
   clear hS hg hrg HI4 HRL HCC
   generalize wE = w5 at *
   go_upto_region 14 with (fail)
   have hb6 := (Below.refl w5.heap.size w5).drew
   have hok6 : FbOk (newL p (mix (ldL p S) (p.rs.map laneO) i)) := newL_ok G.out.hp (by
    have e := ldL_length (p := p) (S := S) HTL.out.2
    rw [mix_length (by rw [e, List.length_map]) (by omega), e])
   obtain ⟨r, cap2, pre, post, f1, f2, f3, f4, f5, f6, f7, f8, f9, hTURN⟩ := (HI5.out.later hb6).fab.turn hok6 (i := (i : Int)) (by omega) (by show (i : Int) < (p.rs.length : Int); omega)
   rw [z3] at f1
   replace f1 : Value.slice L p.rs.length cl = .slice (some ⟨r, 0, none⟩) p.rs.length cap2 := f1
   simp only [Value.slice.injEq, true_and] at f1
   obtain ⟨rfl, rfl⟩ := f1
   obtain ⟨cs, hcs, hcl, hld, hlane⟩ := rg_cells HR5.out
   obtain ⟨x, hx1, hx2, hx3⟩ := hlane s.cl
   have hxc : x.R = loadR cap rd s.tl false s.hs s.sl ∧ x.cl = s.cl := by unfold laOf at hx2; simp only [La.mk.injEq] at hx2; exact hx2
   obtain ⟨hst1, hst2⟩ := lane_store f7 hx1
   rw [hxc.2, hxc.1, hx3, f5, Int.toNat_natCast] at hst1
   rw [f5, Int.toNat_natCast] at hst2
   have hone : (cs ++ [Value.bool s.cl]).toArray.all (·.oneCell') = true := by rw [← hx3]; exact all_oneCell_toArray (lnF_one x)
   have HI6 := Lib.hid (HI5.out.later hb6)
   have hld1 := hld w5.drew (hcl.below hb6 hcl.lt)
   have HTU := Lib.hid hTURN
   have HST := Lib.hid hst1
   have HTH : Hid (w5.drew.there r (i * 207) (cs ++ [Value.bool s.cl]).toArray.size) := by rw [List.size_toArray, List.length_append, hcs]; exact hst2
   have HON := Lib.hid hone
   have c4 := (HI5.out.later hb6).fab.cells.2.2.2.2.1
   rw [z3] at c4
   have gl := (hcl.below hb6 hcl.lt).lt
   have Fl := (HI5.out.later hb6).fab.lt
   have rl := f7.lt
   have HNR : Hid (r ≠ w.heap.size ∧ r ≠ w.heap.size + 1) := by
    obtain ⟨M, _, _, hl⟩ := f7.2
    exact ⟨fun e => by subst e; exact absurd (hl.same HI6.out.box).1 (by decide), fun e => by subst e; exact absurd (hl.same HI6.out.sta).1 (by decide)⟩
   clear hTURN hst1 hst2 hone hx1 hx2 hx3 hxc hlane hld hcl hok6 f7 f8 f9 f6 f5 f4 hb6
   refine wp_region_still_tail 11 (by kernel_rfl) (by kernel_rfl) ?_
   simp only [List.take_succ_cons, List.take_zero, List.drop_succ_cons, List.drop_zero]
   change wpStill _ _ w5.drew (fun a' => wpList _ _ _ _ a' w5.drew) _ _
   generalize w5.drew = w6 at *
   iterate 7 still_step
   refine wpStill_step (fun K hK => ?_)
   rw [if_pos (by kernel_rfl)]
   refine still_load_mid _ _ rfl _ _ rfl _ hld1 (hK _ ?_)
   clear hK K
   still_step
   refine wpStill_step (fun K hK => ?_)
   rw [if_pos (by kernel_rfl)]
   refine still_build _ _ _ rfl _ _ _ rfl rfl (lane_build2 _ cs s.cl hcs) (hK _ ?_)
   clear hK K
   still_step
   refine wpStill_nil ?_
   clear c4 hld1
   have hsz : (Tryz.prog.info? 97).map (·.size) = some (cs ++ [Value.bool s.cl]).toArray.size := by rw [List.size_toArray, List.length_append, hcs]; exact laneInfoS
   go_wp2_with (refine wpList_store_mid rfl 97 _ _ rfl r (i * 207) (cs ++ [Value.bool s.cl]).toArray rfl rfl HTH.out hsz HON.out ?_)
   have hk6 := kept_cells (g := r) (cs ++ [Value.bool s.cl]) (i * 207) w6
   obtain ⟨hfn, hbn⟩ := HTU.out _ _ _ hk6 HST.out
   have hml : (ldL p S).length = (p.rs.map laneO).length := by rw [ldL_length HTL.out.2, List.length_map]
   have hgt : (ldL p S)[i]? = some ⟨loadR cap rd s.tl false s.hs s.sl, s.cl⟩ := ldL_get HRG.out HSG.out
   have hse : setL (newL p (mix (ldL p S) (p.rs.map laneO) i)) (i : Int) (loadR cap rd s.tl false s.hs s.sl) s.cl = newL p (mix (ldL p S) (p.rs.map laneO) (i + 1)) := by
    rw [← mix_set hml hgt]; unfold setL newL; rw [Int.toNat_natCast]
   rw [hse] at hfn
   have HI9 : Hid (LdS w (pgC (some ⟨rb, ro, none⟩) c Q d p) (stC (.slice At p.ts.length ct) (.slice (some ⟨T9, 0, none⟩) p.rs.length cr) S.now S.rds S.en) F (newL p (mix (ldL p S) (p.rs.map laneO) (i + 1))) z (w6.setCells r (i * 207) (cs ++ [Value.bool s.cl]).toArray.toList)) :=
    ⟨HI6.out.bel.trans hbn, HI6.out.box.kept hk6 (fun (e : w.heap.size = r) => HNR.out.1 e.symm), HI6.out.sta.kept hk6 (fun (e : w.heap.size + 1 = r) => HNR.out.2 e.symm), hfn, HI6.out.hF⟩
   clear hsz hk6 hfn hbn hml hgt hse HTU HST HTH HON HI6 HI5 HNR hcs rl gl Fl HR5 HG5
   generalize w6.setCells r (i * 207) (cs ++ [Value.bool s.cl]).toArray.toList = w7 at *
   go_wp2
   go_roundw
   case rel => exact ⟨i + 1, by omega, by go_num, HI9⟩
   case measure => simp [intOf]; omega
  ·obtain rfl : i = p.rs.length := by omega
   have hI := HI.out
   have hml : (ldL p S).length = p.rs.length := ldL_length HTL.out.2
   rw [← hml, mix_all (by rw [hml, List.length_map])] at hI
   have HI : Hid (LdS w (pgC A c Q d p) (stC (.slice At p.ts.length ct) (.slice Ar p.rs.length cr) S.now S.rds S.en) F (ldT p S (mix (S.th.map noSn) (List.replicate p.ts.length thO) 0) (mix (S.th.map (·.sn)) (List.replicate p.ts.length []) 0)) z wr) := by
    rw [mix_zero, mix_zero]
    have h2 := hI
    rw [hml] at h2
    exact h2
   clear hI hml hi hlt
   have s0 := (HI.out.sta.cell 0).trans (show _ = some (Value.slice At p.ts.length ct) from rfl)
   have sl := HI.out.sta.lt
   go_wp2_with fail
   clear s0 sl
   go_loopw [81] (fun u wr => ∃ (i : Nat) (z : Fv), i ≤ p.ts.length ∧ u = .int .i64 i ∧ Hid (LdS w (pgC A c Q d p) (stC (.slice At p.ts.length ct) (.slice Ar p.rs.length cr) S.now S.rds S.en) F (ldT p S (mix (S.th.map noSn) (List.replicate p.ts.length thO) i) (mix (S.th.map (·.sn)) (List.replicate p.ts.length []) i)) z wr)) (fun u _ => p.ts.length - (intOf u).toNat)
   case atStart => exact ⟨0, z, by omega, rfl, HI⟩
   case round =>
    clear HI z1 z2 z3
    obtain ⟨i, z, hi, rfl, HI⟩ := hrel
    by_cases hlt : i < p.ts.length
    ·have hii : (i : Int) < (p.ts.length : Int) := by omega
     have htl := HTL.out.1
     obtain ⟨x, hx⟩ : ∃ x, S.th[i]? = some x := ⟨_, List.getElem?_eq_getElem (by omega)⟩
     obtain ⟨l, hl⟩ : ∃ l, p.ts[i]? = some l := ⟨_, List.getElem?_eq_getElem hlt⟩
     obtain ⟨htb, hxo, hxl, hgv, hgr⟩ := G.out.th i l x hl hx
     obtain ⟨T8, c8, A8, d8, e8, _, _, hT8, hTC⟩ := ownTs_at HTS.out hx
     rw [htl] at e8
     simp only [Value.slice.injEq, true_and] at e8
     obtain ⟨rfl, rfl⟩ := e8
     obtain ⟨qb, qo, A7, c7, rfl, hcq, hin⟩ := HH.out.2.at_ hl
     have hcd : codeN (ldT p S (mix (S.th.map noSn) (List.replicate p.ts.length thO) i) (mix (S.th.map (·.sn)) (List.replicate p.ts.length []) i)) i = l := by
      unfold codeN ldT
      rw [List.getD_eq_getElem?_getD, hl]; rfl
     have hld := th_load (q := wr) (b := T8) (off := i * 14) (x := x) (v := .slice A8 x.sn.length d8) (hTC wr HI.out.bel).1
     have hsq := (hTC wr HI.out.bel).2
     have hT8w := Nat.lt_of_lt_of_le hT8 HI.out.bel.size
     have HX := Lib.hid hx
     have HL := Lib.hid hl
     have HXP : Hid (thB l x = true ∧ thOk x ∧ x.sn.length ≤ 1000000 ∧ gaveB (newL p (ldL p S)) (askX l x) = true ∧ ((askX l x).kd = 10 ∨ (askX l x).kd = 11 → 0 ≤ (askX l x).rg ∧ (askX l x).rg < (p.rs.length : Int))) := ⟨htb, hxo, hxl, hgv, hgr⟩
     have HCD := Lib.hid hcd
     have HIN : Hid (w.cell? ⟨qb, qo + i, none⟩ = some (.slice A7 l.length c7) ∧ InsAt w A7 c7 l) := ⟨hcq, hin⟩
     have hbx : Below wr.heap.size wr (wr.alloc (.cells (thC x (.slice A8 x.sn.length d8)) 73)) := (Below.refl _ _).alloc (Nat.le_refl _) _
     have HLX := Lib.hid (Lies.made wr 73 (thC x (.slice A8 x.sn.length d8)))
     have HI4 := Lib.hid (HI.out.later hbx)
     have HSQ := Lib.hid (hsq.later hbx)
     have HNZ : Hid (w.heap.size ≤ wr.heap.size) := HI.out.bel.size
     have HTV : Hid (∀ k, z.tv.ownBlock = some k → k < wr.heap.size) := fun k e => (own_lt17 HI.out.fab.tr e).2
     clear hx hl htb hxo hxl hgv hgr hTC hcq hin hcd hsq hbx
     go_wp2_with (refine wpList_load_known rfl _ _ rfl T8 (i * 14) rfl _ hld ?_)
     clear hld hT8w HI
     generalize wr.alloc (.cells (thC x (.slice A8 x.sn.length d8)) 73) = w4 at *
     generalize wr.heap.size = N9 at *
     have HCC : Hid (∀ q, Below w4.heap.size w4 q → q.cell? ⟨w.heap.size, 1, none⟩ = some (.slice (some ⟨qb, qo, none⟩) p.ts.length d) ∧ q.cell? ⟨qb, qo + i, none⟩ = some (.slice A7 l.length c7) ∧ Lies q N9 73 (thC x (.slice A8 x.sn.length d8)) ∧ w.heap.size < q.heap.size ∧ qb < q.heap.size ∧ N9 < q.heap.size ∧ InsAt q A7 c7 l ∧ FabAt q w.heap.size F (ldT p S (mix (S.th.map noSn) (List.replicate p.ts.length thO) i) (mix (S.th.map (·.sn)) (List.replicate p.ts.length []) i)) z ∧ F < q.heap.size) := fun q hq => by
      have hI := HI4.out.later hq
      have g1 := cell_later HIN.out.1 hI.bel
      exact ⟨(hI.box.cell 1).trans (show _ = some (Value.slice (some ⟨qb, qo, none⟩) p.ts.length d) from rfl), g1, HLX.out.below hq HLX.out.lt, hI.box.lt, World.block_lt_of_cell? _ _ g1, Nat.lt_of_lt_of_le HLX.out.lt hq.size, HIN.out.2.later hI.bel, hI.fab, hI.fab.lt⟩
     have HRI := Lib.hid (fun (q : World) (hq : Below w4.heap.size w4 q) => by
      have := thRight l A7 c7 x (.slice A8 x.sn.length d8) q (HCC.out q hq).2.2.2.2.2.2.1
      rw [HXP.out.1] at this
      exact this)
     have HGA := Lib.hid (fun (q : World) (hq : Below w4.heap.size w4 q) => by
      have := fbGave i (f := ldT p S (mix (S.th.map noSn) (List.replicate p.ts.length thO) i) (mix (S.th.map (·.sn)) (List.replicate p.ts.length []) i)) hlt x (.slice A8 x.sn.length d8) HXP.out.2.1 G.out.hp (ldL_length HTL.out.2) (HCC.out q hq).2.2.2.2.2.2.2.1 (by rw [HCD.out]; exact HXP.out.2.2.2.2)
      rw [HCD.out, show gaveB (ldT p S (mix (S.th.map noSn) (List.replicate p.ts.length thO) i) (mix (S.th.map (·.sn)) (List.replicate p.ts.length []) i)) (askX l x) = true from HXP.out.2.2.2.1] at this
      exact this)
     refine wp_region_rely (fun q => Below w4.heap.size w4 q) (bfV [.eq (.pointer (some ⟨w.heap.size, 1, none⟩)), .eq (.slice (some ⟨qb, qo, none⟩) p.ts.length d), .eq (.int .i64 (i : Int)), .eq (.pointer (some ⟨qb, qo + i, none⟩)), .eq (.slice A7 l.length c7), .eq (.agg (thC x (.slice A8 x.sn.length d8))), .eq (.bool true), .eq (.bool false), .eq (.bool false), .eq (.pointer (some ⟨F, 0, none⟩)), .eq (.int .i64 (i : Int)), .eq (.agg (thC x (.slice A8 x.sn.length d8))), .eq (.bool true), .eq (.bool false), .eq (.bool false)]) [some 86, some 87, some 88, some 89, some 90, some 91, some 92, some 93, some 94, some 95, some 96, some 97, some 98, some 99, some 100] [[], [0], [], [1, 2], [3], [], [4, 5], [6], [7], [8], [8], [8], [9, 10, 11, 8], [12, 8], [8, 13]] [[], [0], [], [0, 1, 2], [1, 2, 3], [], [3, 4, 5], [4, 5, 6], [4, 5, 6, 7], [7], [7], [7], [7, 9, 10, 11], [7, 9, 10, 11, 12], [7, 12, 13]] [[2, 3, 4, 5, 6, 7, 8, 9, 10, 11, 12, 13, 14], [2, 4, 5, 6, 7, 8, 9, 10, 11, 12, 13, 14], [0, 1, 4, 5, 6, 7, 8, 9, 10, 11, 12, 13, 14], [5, 6, 7, 8, 9, 10, 11, 12, 13, 14], [5, 7, 8, 9, 10, 11, 12, 13, 14], [0, 1, 2, 3, 4, 7, 8, 9, 10, 11, 12, 13, 14], [0, 9, 10, 11, 12, 13, 14], [0, 1, 2, 9, 10, 11, 12, 13, 14], [0, 1, 2], [0, 1, 2, 3, 8, 10, 11, 13, 14], [0, 1, 2, 3, 8, 9, 11, 13, 14], [0, 1, 2, 3, 8, 9, 10, 13, 14], [0, 1, 2, 3, 8, 14], [0, 1, 2, 3, 8], [0, 1, 2, 3, 8]] [0, 1, 2, 3, 4, 5, 6, 7, 8, 9, 10, 11, 12, 13, 14] 15 (by kernel_rfl) (by kernel_rfl) (by kernel_rfl) (by kernel_rfl) ?rS (fun j h1 h2 => absurd (Nat.lt_of_lt_of_le h1 (Nat.le_trans (by decide) h2)) (Nat.lt_irrefl _)) ?rT ?rE
     case rS => exact below_drewN (Below.refl _ _) 1
     case rT =>
      refine RelySteps.cons (RelyStep.mk [] [2, 3, 4, 5, 6, 7, 8, 9, 10, 11, 12, 13, 14] rfl rfl rfl (fun xv wS hS hV bq hb K hK => ?_)) ?_
      ·clear hV
       simp only [putsOf, List.foldl_cons, List.foldl_nil, List.getD_cons_zero, List.getD_cons_succ, List.getD_nil, cond_true, cond_false, Act.put, List.setIfInBounds_toArray, List.set_cons_zero, List.set_cons_succ] at hb
       subst hb
       rw [if_pos (by rfl)]
       go_wp2_with fail
       exact hK.out _ _ ⟨_, rfl, hS, rfl, AllP.same _⟩
      refine RelySteps.cons (RelyStep.mk [0] [2, 4, 5, 6, 7, 8, 9, 10, 11, 12, 13, 14] rfl rfl rfl (fun xv wS hS hV bq hb K hK => ?_)) ?_
      ·obtain ⟨h0, _⟩ := hV
       have h0 : xv 0 = _ := h0
       simp only [putsOf, List.foldl_cons, List.foldl_nil, List.getD_cons_zero, List.getD_cons_succ, List.getD_nil, cond_true, cond_false, Act.put, List.setIfInBounds_toArray, List.set_cons_zero, List.set_cons_succ, h0] at hb
       clear h0
       subst hb
       rw [if_pos (by rfl)]
       (obtain ⟨q1, q2, q3, q4, q5, q6, q7, q8, q9⟩ := HCC.out _ hS)
       go_wp2_with fail
       exact hK.out _ _ ⟨_, rfl, hS, rfl, AllP.same _⟩
      refine RelySteps.cons (RelyStep.mk [] [0, 1, 4, 5, 6, 7, 8, 9, 10, 11, 12, 13, 14] rfl rfl rfl (fun xv wS hS hV bq hb K hK => ?_)) ?_
      ·clear hV
       simp only [putsOf, List.foldl_cons, List.foldl_nil, List.getD_cons_zero, List.getD_cons_succ, List.getD_nil, cond_true, cond_false, Act.put, List.setIfInBounds_toArray, List.set_cons_zero, List.set_cons_succ] at hb
       subst hb
       rw [if_pos (by rfl)]
       go_wp2_with fail
       exact hK.out _ _ ⟨_, rfl, hS, rfl, AllP.same _⟩
      refine RelySteps.cons (RelyStep.mk [1, 2] [5, 6, 7, 8, 9, 10, 11, 12, 13, 14] rfl rfl rfl (fun xv wS hS hV bq hb K hK => ?_)) ?_
      ·obtain ⟨h1, h2, _⟩ := hV
       have h1 : xv 1 = _ := h1
       have h2 : xv 2 = _ := h2
       simp only [putsOf, List.foldl_cons, List.foldl_nil, List.getD_cons_zero, List.getD_cons_succ, List.getD_nil, cond_true, cond_false, Act.put, List.setIfInBounds_toArray, List.set_cons_zero, List.set_cons_succ, h1, h2] at hb
       clear h1
       clear h2
       subst hb
       rw [if_pos (by rfl)]
       go_wp2_with fail
       exact hK.out _ _ ⟨_, rfl, hS, rfl, AllP.same _⟩
      refine RelySteps.cons (RelyStep.mk [3] [5, 7, 8, 9, 10, 11, 12, 13, 14] rfl rfl rfl (fun xv wS hS hV bq hb K hK => ?_)) ?_
      ·obtain ⟨h3, _⟩ := hV
       have h3 : xv 3 = _ := h3
       simp only [putsOf, List.foldl_cons, List.foldl_nil, List.getD_cons_zero, List.getD_cons_succ, List.getD_nil, cond_true, cond_false, Act.put, List.setIfInBounds_toArray, List.set_cons_zero, List.set_cons_succ, h3] at hb
       clear h3
       subst hb
       rw [if_pos (by rfl)]
       (obtain ⟨q1, q2, q3, q4, q5, q6, q7, q8, q9⟩ := HCC.out _ hS)
       go_wp2_with fail
       exact hK.out _ _ ⟨_, rfl, hS, rfl, AllP.same _⟩
      refine RelySteps.cons (RelyStep.mk [] [0, 1, 2, 3, 4, 7, 8, 9, 10, 11, 12, 13, 14] rfl rfl rfl (fun xv wS hS hV bq hb K hK => ?_)) ?_
      ·clear hV
       simp only [putsOf, List.foldl_cons, List.foldl_nil, List.getD_cons_zero, List.getD_cons_succ, List.getD_nil, cond_true, cond_false, Act.put, List.setIfInBounds_toArray, List.set_cons_zero, List.set_cons_succ] at hb
       subst hb
       rw [if_pos (by rfl)]
       have HSS := Lib.hid hS
       clear hS
       refine wp_load_known _ _ rfl N9 0 rfl _ (th_load0 (HCC.out _ HSS.out).2.2.1) ?_
       exact hK.out _ _ ⟨_, rfl, HSS.out, rfl, AllP.same _⟩
      refine RelySteps.cons (RelyStep.mk [4, 5] [0, 9, 10, 11, 12, 13, 14] rfl rfl rfl (fun xv wS hS hV bq hb K hK => ?_)) ?_
      ·obtain ⟨h4, h5, _⟩ := hV
       have h4 : xv 4 = _ := h4
       have h5 : xv 5 = _ := h5
       simp only [putsOf, List.foldl_cons, List.foldl_nil, List.getD_cons_zero, List.getD_cons_succ, List.getD_nil, cond_true, cond_false, Act.put, List.setIfInBounds_toArray, List.set_cons_zero, List.set_cons_succ, h4, h5] at hb
       clear h4
       clear h5
       subst hb
       rw [if_pos (by rfl)]
       have HSS := Lib.hid hS
       clear hS
       go_wp2_with fail
       refine (HRI.out wS HSS.out).mono ?_
       rintro e w5 ⟨rfl, hb5⟩
       exact hK.out _ _ ⟨_, rfl, then_ HSS.out hb5, rfl, AllP.of _ (fun j _ _ h => bfV_below hb5 h)⟩
      refine RelySteps.cons (RelyStep.mk [6] [0, 1, 2, 9, 10, 11, 12, 13, 14] rfl rfl rfl (fun xv wS hS hV bq hb K hK => ?_)) ?_
      ·obtain ⟨h6, _⟩ := hV
       have h6 : xv 6 = _ := h6
       simp only [putsOf, List.foldl_cons, List.foldl_nil, List.getD_cons_zero, List.getD_cons_succ, List.getD_nil, cond_true, cond_false, Act.put, List.setIfInBounds_toArray, List.set_cons_zero, List.set_cons_succ, h6] at hb
       clear h6
       subst hb
       rw [if_pos (by rfl)]
       go_wp2_with fail
       exact hK.out _ _ ⟨_, rfl, hS, rfl, AllP.same _⟩
      refine RelySteps.cons (RelyStep.mk [7] [0, 1, 2] rfl rfl rfl (fun xv wS hS hV bq hb K hK => ?_)) ?_
      ·obtain ⟨h7, _⟩ := hV
       have h7 : xv 7 = _ := h7
       simp only [putsOf, List.foldl_cons, List.foldl_nil, List.getD_cons_zero, List.getD_cons_succ, List.getD_nil, cond_true, cond_false, Act.put, List.setIfInBounds_toArray, List.set_cons_zero, List.set_cons_succ, h7] at hb
       clear h7
       subst hb
       rw [if_pos (by rfl)]
       go_wp2_with fail
       exact hK.out _ _ ⟨_, rfl, hS, rfl, AllP.same _⟩
      refine RelySteps.cons (RelyStep.mk [8] [0, 1, 2, 3, 8, 10, 11, 13, 14] rfl rfl rfl (fun xv wS hS hV bq hb K hK => ?_)) ?_
      ·obtain ⟨h8, _⟩ := hV
       have h8 : xv 8 = _ := h8
       simp only [putsOf, List.foldl_cons, List.foldl_nil, List.getD_cons_zero, List.getD_cons_succ, List.getD_nil, cond_true, cond_false, Act.put, List.setIfInBounds_toArray, List.set_cons_zero, List.set_cons_succ, h8] at hb
       clear h8
       subst hb
       rw [if_pos (by rfl)]
       go_wp2_with fail
       exact hK.out _ _ ⟨_, rfl, hS, rfl, AllP.same _⟩
      refine RelySteps.cons (RelyStep.mk [8] [0, 1, 2, 3, 8, 9, 11, 13, 14] rfl rfl rfl (fun xv wS hS hV bq hb K hK => ?_)) ?_
      ·obtain ⟨h8, _⟩ := hV
       have h8 : xv 8 = _ := h8
       simp only [putsOf, List.foldl_cons, List.foldl_nil, List.getD_cons_zero, List.getD_cons_succ, List.getD_nil, cond_true, cond_false, Act.put, List.setIfInBounds_toArray, List.set_cons_zero, List.set_cons_succ, h8] at hb
       clear h8
       subst hb
       rw [if_pos (by rfl)]
       go_wp2_with fail
       exact hK.out _ _ ⟨_, rfl, hS, rfl, AllP.same _⟩
      refine RelySteps.cons (RelyStep.mk [8] [0, 1, 2, 3, 8, 9, 10, 13, 14] rfl rfl rfl (fun xv wS hS hV bq hb K hK => ?_)) ?_
      ·obtain ⟨h8, _⟩ := hV
       have h8 : xv 8 = _ := h8
       simp only [putsOf, List.foldl_cons, List.foldl_nil, List.getD_cons_zero, List.getD_cons_succ, List.getD_nil, cond_true, cond_false, Act.put, List.setIfInBounds_toArray, List.set_cons_zero, List.set_cons_succ, h8] at hb
       clear h8
       subst hb
       rw [if_pos (by rfl)]
       have HSS := Lib.hid hS
       clear hS
       refine wp_load_known _ _ rfl N9 0 rfl _ (th_load0 (HCC.out _ HSS.out).2.2.1) ?_
       exact hK.out _ _ ⟨_, rfl, HSS.out, rfl, AllP.same _⟩
      refine RelySteps.cons (RelyStep.mk [9, 10, 11, 8] [0, 1, 2, 3, 8, 14] rfl rfl rfl (fun xv wS hS hV bq hb K hK => ?_)) ?_
      ·obtain ⟨h9, h10, h11, h8, _⟩ := hV
       have h9 : xv 9 = _ := h9
       have h10 : xv 10 = _ := h10
       have h11 : xv 11 = _ := h11
       have h8 : xv 8 = _ := h8
       simp only [putsOf, List.foldl_cons, List.foldl_nil, List.getD_cons_zero, List.getD_cons_succ, List.getD_nil, cond_true, cond_false, Act.put, List.setIfInBounds_toArray, List.set_cons_zero, List.set_cons_succ, h9, h10, h11, h8] at hb
       clear h9
       clear h10
       clear h11
       clear h8
       subst hb
       rw [if_pos (by rfl)]
       have HSS := Lib.hid hS
       clear hS
       go_wp2_with fail
       refine (HGA.out wS HSS.out).mono ?_
       rintro e w5 ⟨rfl, hb5⟩
       exact hK.out _ _ ⟨_, rfl, then_ HSS.out hb5, rfl, AllP.of _ (fun j _ _ h => bfV_below hb5 h)⟩
      refine RelySteps.cons (RelyStep.mk [12, 8] [0, 1, 2, 3, 8] rfl rfl rfl (fun xv wS hS hV bq hb K hK => ?_)) ?_
      ·obtain ⟨h12, h8, _⟩ := hV
       have h12 : xv 12 = _ := h12
       have h8 : xv 8 = _ := h8
       simp only [putsOf, List.foldl_cons, List.foldl_nil, List.getD_cons_zero, List.getD_cons_succ, List.getD_nil, cond_true, cond_false, Act.put, List.setIfInBounds_toArray, List.set_cons_zero, List.set_cons_succ, h12, h8] at hb
       clear h12
       clear h8
       subst hb
       rw [if_pos (by rfl)]
       go_wp2_with fail
       exact hK.out _ _ ⟨_, rfl, hS, rfl, AllP.same _⟩
      refine RelySteps.cons (RelyStep.mk [8, 13] [0, 1, 2, 3, 8] rfl rfl rfl (fun xv wS hS hV bq hb K hK => ?_)) ?_
      ·obtain ⟨h8, h13, _⟩ := hV
       have h8 : xv 8 = _ := h8
       have h13 : xv 13 = _ := h13
       simp only [putsOf, List.foldl_cons, List.foldl_nil, List.getD_cons_zero, List.getD_cons_succ, List.getD_nil, cond_true, cond_false, Act.put, List.setIfInBounds_toArray, List.set_cons_zero, List.set_cons_succ, h8, h13] at hb
       clear h8
       clear h13
       subst hb
       rw [if_pos (by rfl)]
       go_wp2_with fail
       exact hK.out _ _ ⟨_, rfl, hS, rfl, AllP.same _⟩
      exact RelySteps.nil
     case rE =>
     intro xv wE hS hV
     have h8 := hV 8 (by decide) (by decide)
     have h14 := hV 14 (by decide) (by decide)
     clear hV
     simp only [putsOf, List.foldl_cons, List.foldl_nil, List.getD_cons_zero, List.getD_cons_succ, List.getD_nil, cond_true, cond_false, Act.put, List.setIfInBounds_toArray, List.set_cons_zero, List.set_cons_succ]
     have h8 : xv 8 = _ := h8
     have h14 : xv 14 = _ := h14
     rw [h8]; clear h8
     rw [h14]; clear h14
     generalize xv 0 = y0 at *
     generalize xv 1 = y1 at *
     generalize xv 2 = y2 at *
     generalize xv 3 = y3 at *
     generalize xv 4 = y4 at *
     generalize xv 5 = y5 at *
     generalize xv 6 = y6 at *
     generalize xv 7 = y7 at *
     generalize xv 9 = y9 at *
     generalize xv 10 = y10 at *
     generalize xv 11 = y11 at *
     generalize xv 12 = y12 at *
     generalize xv 13 = y13 at *
     have HI5 := Lib.hid (HI4.out.later hS)
     have HLX5 := Lib.hid (HLX.out.below hS HLX.out.lt)
     have HSQ5 := Lib.hid (HSQ.out.later hS)
     have HZ5 := Lib.hid (show N9 < w4.heap.size from HLX.out.lt)
     have HW5 : Hid (w4.heap.size ≤ wE.heap.size) := hS.size
     clear hS HI4 HLX HSQ HCC HRI HGA
     generalize wE = w5 at *
     go_upto_region 21 with (fail)
     have hok := ldT_ok G.out (i := i) hi
     obtain ⟨Sv2, cs2, As, csn, sn0, f1, f2, f3, f4, f5, f6, ⟨cur7, f7⟩, f8, hTURN⟩ := HI5.out.fab.seen hok (t := i) hlt
     replace f1 : z.sv = .slice (some ⟨Sv2, 0, none⟩) p.ts.length cs2 := f1
     have f2 : p.ts.length ≤ cs2 := f2
     have HF7 := Lib.hid f7
     have HCC : Hid (∀ q, Below w5.heap.size w5 q → q.cell? ⟨F, 3, none⟩ = some (.slice (some ⟨Sv2, 0, none⟩) p.ts.length cs2) ∧ q.cell? ⟨N9, 13, none⟩ = some (.slice A8 x.sn.length d8) ∧ F < q.heap.size ∧ N9 < q.heap.size ∧ Sv2 < q.heap.size ∧ Lies q Sv2 66 cur7) := fun q hq => by
      have c3 := (HI5.out.later hq).fab.cells.2.2.2.1
      rw [f1] at c3
      have l3 := HLX5.out.below hq HLX5.out.lt
      have l7 := HF7.out.below hq HF7.out.lt
      exact ⟨c3, (l3.cell 13).trans rfl, (HI5.out.later hq).fab.lt, l3.lt, l7.lt, l7⟩
     have HTU := Lib.hid hTURN
     have HF8 := Lib.hid f8
     have HCL := Lib.hid (fun (q : World) (hq : Below w5.heap.size w5 q) => clone16 x.sn A8 d8 q (HSQ5.out.later hq) HXP.out.2.2.1)
     have HSV := Lib.hid f1
     clear hok f1 f3 f4 f5 f6 f7 f8 hTURN
     refine wp_region_relyx (PuS w5 (.slice none 0 0) Sv2 i 7 9 [0, 1, 2, 3, 4, 5, 6, 7, 8] [] (fun v q => ∃ A' c', v = Value.slice A' x.sn.length c' ∧ q.ownsRow w5.heap.size 37 1 v x.sn.length (cells64 x.sn) ∧ Below w5.heap.size w5 q)) (bfV [.eq (.pointer (some ⟨F, 0, none⟩)), .eq (.pointer (some ⟨F, 0, none⟩)), .eq (.pointer (some ⟨F, 3, none⟩)), .eq (.slice (some ⟨Sv2, 0, none⟩) p.ts.length cs2), .eq (.int .i64 (i : Int)), .eq (.pointer (some ⟨N9, 13, none⟩)), .eq (.slice A8 x.sn.length d8), .any, .eq (.pointer (some ⟨Sv2, i, none⟩)), .any]) [some 101, some 102, some 103, some 104, some 105, some 106, some 107, some 108, some 109, none] [[], [0], [1], [2], [], [], [5], [6], [3, 4], [8, 7]] [[], [0], [0, 1], [1, 2], [], [], [5], [5, 6], [0, 1, 2, 3, 4, 5, 6], [0, 1, 2, 3, 4, 5, 6, 8]] [[2, 3, 4, 5, 6, 7], [3, 4, 5, 6, 7], [4, 5, 6, 7], [4, 5, 6, 7], [0, 1, 2, 3, 5, 6, 7], [0, 1, 2, 3, 4, 7], [0, 1, 2, 3, 4], [0, 1, 2, 3, 4], [7], [7]] [0, 1, 2, 3, 4, 5, 6, 7, 8, 9] 10 (by kernel_rfl) (by kernel_rfl) (by kernel_rfl) (by kernel_rfl) ?rS (fun j h1 h2 => absurd (Nat.lt_of_lt_of_le h1 (Nat.le_trans (by decide) h2)) (Nat.lt_irrefl _)) ?rT ?rE
     case rS => exact pu_start
     case rT =>
      refine RelyStepsX.cons (RelyStepX.mk [] [2, 3, 4, 5, 6, 7] rfl rfl rfl (fun xv Lv wS hS hL hLd hV bq hb K hK => ?_)) ?_
      ·clear hV
       simp only [putsOf, List.foldl_cons, List.foldl_nil, List.getD_cons_zero, List.getD_cons_succ, List.getD_nil, cond_true, cond_false, Act.put, List.setIfInBounds_toArray, List.set_cons_zero, List.set_cons_succ] at hb
       subst hb
       rw [if_pos (by rfl)]
       go_wp2_with fail
       exact hK.out _ _ ⟨_, rfl, pu_op (i := 0) rfl hS, rfl, AllPX.same _⟩
      refine RelyStepsX.cons (RelyStepX.mk [0] [3, 4, 5, 6, 7] rfl rfl rfl (fun xv Lv wS hS hL hLd hV bq hb K hK => ?_)) ?_
      ·obtain ⟨h0, _⟩ := hV
       have h0 : xv 0 = _ := h0
       simp only [putsOf, List.foldl_cons, List.foldl_nil, List.getD_cons_zero, List.getD_cons_succ, List.getD_nil, cond_true, cond_false, Act.put, List.setIfInBounds_toArray, List.set_cons_zero, List.set_cons_succ, h0] at hb
       clear h0
       subst hb
       rw [if_pos (by rfl)]
       (obtain ⟨q1, q2, q3, q4, q5, q6⟩ := HCC.out _ (pu_nil hS hL rfl))
       go_wp2_with fail
       exact hK.out _ _ ⟨_, rfl, pu_op (i := 1) rfl hS, rfl, AllPX.same _⟩
      refine RelyStepsX.cons (RelyStepX.mk [1] [4, 5, 6, 7] rfl rfl rfl (fun xv Lv wS hS hL hLd hV bq hb K hK => ?_)) ?_
      ·obtain ⟨h1, _⟩ := hV
       have h1 : xv 1 = _ := h1
       simp only [putsOf, List.foldl_cons, List.foldl_nil, List.getD_cons_zero, List.getD_cons_succ, List.getD_nil, cond_true, cond_false, Act.put, List.setIfInBounds_toArray, List.set_cons_zero, List.set_cons_succ, h1] at hb
       clear h1
       subst hb
       rw [if_pos (by rfl)]
       go_wp2_with fail
       exact hK.out _ _ ⟨_, rfl, pu_op (i := 2) rfl hS, rfl, AllPX.same _⟩
      refine RelyStepsX.cons (RelyStepX.mk [2] [4, 5, 6, 7] rfl rfl rfl (fun xv Lv wS hS hL hLd hV bq hb K hK => ?_)) ?_
      ·obtain ⟨h2, _⟩ := hV
       have h2 : xv 2 = _ := h2
       simp only [putsOf, List.foldl_cons, List.foldl_nil, List.getD_cons_zero, List.getD_cons_succ, List.getD_nil, cond_true, cond_false, Act.put, List.setIfInBounds_toArray, List.set_cons_zero, List.set_cons_succ, h2] at hb
       clear h2
       subst hb
       rw [if_pos (by rfl)]
       (obtain ⟨q1, q2, q3, q4, q5, q6⟩ := HCC.out _ (pu_nil hS hL rfl))
       go_wp2_with fail
       exact hK.out _ _ ⟨_, rfl, pu_op (i := 3) rfl hS, rfl, AllPX.same _⟩
      refine RelyStepsX.cons (RelyStepX.mk [] [0, 1, 2, 3, 5, 6, 7] rfl rfl rfl (fun xv Lv wS hS hL hLd hV bq hb K hK => ?_)) ?_
      ·clear hV
       simp only [putsOf, List.foldl_cons, List.foldl_nil, List.getD_cons_zero, List.getD_cons_succ, List.getD_nil, cond_true, cond_false, Act.put, List.setIfInBounds_toArray, List.set_cons_zero, List.set_cons_succ] at hb
       subst hb
       rw [if_pos (by rfl)]
       go_wp2_with fail
       exact hK.out _ _ ⟨_, rfl, pu_op (i := 4) rfl hS, rfl, AllPX.same _⟩
      refine RelyStepsX.cons (RelyStepX.mk [] [0, 1, 2, 3, 4, 7] rfl rfl rfl (fun xv Lv wS hS hL hLd hV bq hb K hK => ?_)) ?_
      ·clear hV
       simp only [putsOf, List.foldl_cons, List.foldl_nil, List.getD_cons_zero, List.getD_cons_succ, List.getD_nil, cond_true, cond_false, Act.put, List.setIfInBounds_toArray, List.set_cons_zero, List.set_cons_succ] at hb
       subst hb
       rw [if_pos (by rfl)]
       (obtain ⟨q1, q2, q3, q4, q5, q6⟩ := HCC.out _ (pu_nil hS hL rfl))
       go_wp2_with fail
       exact hK.out _ _ ⟨_, rfl, pu_op (i := 5) rfl hS, rfl, AllPX.same _⟩
      refine RelyStepsX.cons (RelyStepX.mk [5] [0, 1, 2, 3, 4] rfl rfl rfl (fun xv Lv wS hS hL hLd hV bq hb K hK => ?_)) ?_
      ·obtain ⟨h5, _⟩ := hV
       have h5 : xv 5 = _ := h5
       simp only [putsOf, List.foldl_cons, List.foldl_nil, List.getD_cons_zero, List.getD_cons_succ, List.getD_nil, cond_true, cond_false, Act.put, List.setIfInBounds_toArray, List.set_cons_zero, List.set_cons_succ, h5] at hb
       clear h5
       subst hb
       rw [if_pos (by rfl)]
       (obtain ⟨q1, q2, q3, q4, q5, q6⟩ := HCC.out _ (pu_nil hS hL rfl))
       go_wp2_with fail
       exact hK.out _ _ ⟨_, rfl, pu_op (i := 6) rfl hS, rfl, AllPX.same _⟩
      refine RelyStepsX.cons (RelyStepX.mk [6] [0, 1, 2, 3, 4] rfl rfl rfl (fun xv Lv wS hS hL hLd hV bq hb K hK => ?_)) ?_
      ·obtain ⟨h6, _⟩ := hV
       have h6 : xv 6 = _ := h6
       simp only [putsOf, List.foldl_cons, List.foldl_nil, List.getD_cons_zero, List.getD_cons_succ, List.getD_nil, cond_true, cond_false, Act.put, List.setIfInBounds_toArray, List.set_cons_zero, List.set_cons_succ, h6] at hb
       clear h6
       subst hb
       rw [if_pos (by rfl)]
       have hb9 := pu_bel hS hL rfl
       have HSS := Lib.hid hS
       clear hS
       go_wp2_with fail
       refine (HCL.out wS hb9).mono ?_
       rintro q w' ⟨u, rfl, ho, hb⟩
       obtain ⟨A', c', rfl, _⟩ := owns_form ho
       exact hK.out _ _ ⟨_, rfl, pu_app rfl HSS.out ((Kept.of_below hb).mono (fun _ _ (hx : False) => hx.elim)) ⟨A', c', rfl, owns_mono ho hb9.size, then_ hb9 hb⟩ (fun j hj => by cases hj), trivial, AllPX.of _ (fun j _ _ h => bfV_below hb h)⟩
      refine RelyStepsX.cons (RelyStepX.mk [3, 4] [7] rfl rfl rfl (fun xv Lv wS hS hL hLd hV bq hb K hK => ?_)) ?_
      ·obtain ⟨h3, h4, _⟩ := hV
       have h3 : xv 3 = _ := h3
       have h4 : xv 4 = _ := h4
       simp only [putsOf, List.foldl_cons, List.foldl_nil, List.getD_cons_zero, List.getD_cons_succ, List.getD_nil, cond_true, cond_false, Act.put, List.setIfInBounds_toArray, List.set_cons_zero, List.set_cons_succ, h3, h4] at hb
       clear h3
       clear h4
       subst hb
       rw [if_pos (by rfl)]
       go_wp2_with fail
       exact hK.out _ _ ⟨_, rfl, pu_op (i := 8) rfl hS, rfl, AllPX.same _⟩
      refine RelyStepsX.cons (RelyStepX.mk [8, 7] [7] rfl rfl rfl (fun xv Lv wS hS hL hLd hV bq hb K hK => ?_)) ?_
      ·obtain ⟨h8, h7, _⟩ := hV
       have h8 : xv 8 = _ := h8
       simp only [putsOf, List.foldl_cons, List.foldl_nil, List.getD_cons_zero, List.getD_cons_succ, List.getD_nil, cond_true, cond_false, Act.put, List.setIfInBounds_toArray, List.set_cons_zero, List.set_cons_succ, h8] at hb
       clear h8
       generalize hy7 : xv 7 = y7 at *
       subst hb
       rw [if_pos (by rfl)]
       obtain ⟨k1, A', c', e7, ho, hb9⟩ := pu_st hS hL (hLd 7 (by decide +kernel))
       rw [hy7] at e7
       subst e7
       obtain ⟨q1, q2, q3, q4, q5, q6⟩ := HCC.out _ hb9
       have c8 : wS.cell? ⟨Sv2, i, none⟩ = some (.slice As sn0.length csn) := cell_later HF8.out hb9
       have f8 := q6.free i
       have HSS := Lib.hid hS
       clear hS ho hb9 k1 q6
       go_wp2_with fail
       refine hK.out _ _ ⟨undef, rfl, ?_, trivial, AllPX.of _ (fun j hj _ h => bfV_lit (by rfl) hj h)⟩
       have := pu_store (v := undef) rfl HSS.out (fun j hj => hLd j (by revert hj; revert j; decide +kernel))
       rwa [hy7] at this
      exact RelyStepsX.nil
     case rE =>
     intro xv Lv wE hS hLall hV
     have h7 := hV 7 (by decide) (by decide)
     have h9 := hV 9 (by decide) (by decide)
     clear hV
     obtain ⟨q1, e1, k1, A', c', e7, ho, hb9⟩ := pu_end hS (hLall 7 (by decide +kernel)) (hLall 9 (by decide +kernel))
     simp only [putsOf, List.foldl_cons, List.foldl_nil, List.getD_cons_zero, List.getD_cons_succ, List.getD_nil, cond_true, cond_false, Act.put, List.setIfInBounds_toArray, List.set_cons_zero, List.set_cons_succ]
     generalize xv 0 = y0 at *
     generalize xv 1 = y1 at *
     generalize xv 2 = y2 at *
     generalize xv 3 = y3 at *
     generalize xv 4 = y4 at *
     generalize xv 5 = y5 at *
     generalize xv 6 = y6 at *
     generalize xv 7 = y7 at *
     generalize xv 8 = y8 at *
     generalize xv 9 = y9 at *
     subst e7
     obtain ⟨hFN, hKN, _⟩ := HTU.out q1 _ x.sn A' c' rfl (k1.mono (fun g _ (h : (Value.slice none 0 0).ownBlock = some g) => by cases h)) (owns_mono ho (Nat.le_trans HI5.out.bel.size (Nat.le_refl _))) (fun g hg => .inr (own_lies ho hg).1)
     have l7 := HF7.out.below hb9 HF7.out.lt
     have kp := Kept.put q1 Sv2 i (.slice A' x.sn.length c')
     have n7 : ∀ {r e cur}, Lies q1 r e cur → e ≠ 66 → ¬ oneRow Sv2 r := fun {r e cur} h4 h5 (h6 : r = Sv2) => by subst h6; exact h5 (h4.same l7).1
     have hI1 := HI5.out.later hb9
     have hB7 : w.heap.size ≤ Sv2 := (own_lies HI5.out.fab.sr.row (show z.sv.ownBlock = some Sv2 by rw [HSV.out]; rfl)).1
     have hml1 : (S.th.map (·.sn)).length = (List.replicate p.ts.length ([] : List Nat)).length := by rw [List.length_map, List.length_replicate]; exact HTL.out.1
     have hmg1 : (S.th.map (·.sn))[i]? = some x.sn := by rw [List.getElem?_map, HX.out]; rfl
     have hLX := (HLX5.out.below hb9 HLX5.out.lt).kept kp (n7 (HLX5.out.below hb9 HLX5.out.lt) (by decide))
     have hIN : LdS w (pgC A c (some ⟨qb, qo, none⟩) d p) (stC (.slice (some ⟨T8, 0, none⟩) p.ts.length ct) (.slice Ar p.rs.length cr) S.now S.rds S.en) F (ldT p S (mix (S.th.map noSn) (List.replicate p.ts.length thO) i) (mix (S.th.map (·.sn)) (List.replicate p.ts.length []) (i + 1))) { z with vs := z.vs.set i (.slice A' x.sn.length c') } (q1.setCell ⟨Sv2, i, none⟩ (.slice A' x.sn.length c')) := by
      refine ⟨hI1.bel.trans (kp.below hI1.bel.size (fun k hk (e : k = Sv2) => by omega)), hI1.box.kept kp (n7 hI1.box (by decide)), hI1.sta.kept kp (n7 hI1.sta (by decide)), ?_, hI1.hF⟩
      rw [← mix_set hml1 hmg1]
      exact hFN
     rw [← e1] at hIN hLX
     have HI6 := Lib.hid hIN
     have HL6 := Lib.hid hLX
     clear hS hLall hFN hKN l7 kp n7 hI1 hml1 hmg1 hLX hIN e1 k1 ho hb9 HTU HF8 HCL HCC HSV HF7 HI5 HLX5 HSQ5
     replace HTV : Hid (∀ k, ({ z with vs := z.vs.set i (.slice A' x.sn.length c') } : Fv).tv.ownBlock = some k → k < N9) := HTV.out
     generalize { z with vs := z.vs.set i (.slice A' x.sn.length c') } = z6 at *
     generalize wE = w6 at *
     have c13 := (HL6.out.cell 13).trans (show _ = some (Value.slice A8 x.sn.length d8) from rfl)
     have f13 := HL6.out.free 13
     have nl := HL6.out.lt
     go_upto_region 23 with (fail)
     have hl7 : Lies (w6.setCell ⟨N9, 13, none⟩ (.slice none 0 0)) N9 73 (thC (noSn x) (.slice none 0 0)) := HL6.out.put 13 (.slice none 0 0)
     have k7 := Kept.put w6 N9 13 (.slice none 0 0)
     have n7 : ∀ {r e cur}, Lies w6 r e cur → e ≠ 73 → ¬ oneRow N9 r := fun {r e cur} h4 h5 (h6 : r = N9) => by subst h6; exact h5 (h4.same HL6.out).1
     have hI7 : LdS w (pgC A c (some ⟨qb, qo, none⟩) d p) (stC (.slice (some ⟨T8, 0, none⟩) p.ts.length ct) (.slice Ar p.rs.length cr) S.now S.rds S.en) F (ldT p S (mix (S.th.map noSn) (List.replicate p.ts.length thO) i) (mix (S.th.map (·.sn)) (List.replicate p.ts.length []) (i + 1))) z6 (w6.setCell ⟨N9, 13, none⟩ (.slice none 0 0)) :=
      ⟨HI6.out.bel.trans (k7.below HI6.out.bel.size (fun k hk (e : k = N9) => by have := HNZ.out; omega)), HI6.out.box.kept k7 (n7 HI6.out.box (by decide)), HI6.out.sta.kept k7 (n7 HI6.out.sta (by decide)), HI6.out.fab.keptN k7 HL6.out (fun e => by have := HTV.out _ e; omega), HI6.out.hF⟩
     have HI7 := Lib.hid hI7
     have HL7 := Lib.hid hl7
     clear c13 f13 nl hl7 k7 n7 hI7 HI6 HL6 HTV
     generalize w6.setCell ⟨N9, 13, none⟩ (.slice none 0 0) = w7 at *
     have hb8 := (Below.refl w7.heap.size w7).drew
     have HI8 := Lib.hid (HI7.out.later hb8)
     have hml2 : (S.th.map noSn).length = (List.replicate p.ts.length thO).length := by rw [List.length_map, List.length_replicate]; exact HTL.out.1
     obtain ⟨T6, ct6, e61, e62, e63, hth, _, ⟨curT, hlT⟩, hFin, hKin⟩ := HI8.out.fab.thread (t := i) (by show (mix _ _ i).length = _; rw [mix_length hml2 (by rw [List.length_map]; have := HTL.out.1; omega), List.length_map]; exact HTL.out.1) hlt (noSn x)
     replace e61 : z6.tv = .slice (some ⟨T6, 0, none⟩) p.ts.length ct6 := e61
     have e62 : p.ts.length ≤ ct6 := e62
     have b2 := HI8.out.fab.cells.2.2.1
     rw [e61] at b2
     have hld7 := th_load0 (HL7.out.below hb8 HL7.out.lt)
     have hN7l := (HL7.out.below hb8 HL7.out.lt).lt
     have Fl := HI8.out.fab.lt
     have Tl := hlT.lt
     have HTH : Hid (w7.drew.there T6 (i * 14) (thC (noSn x) (.slice none 0 0)).size) := hth
     have HFI := Lib.hid hFin
     have HKI := Lib.hid hKin
     have HT6 : Hid (T6 ≠ w.heap.size ∧ T6 ≠ w.heap.size + 1) := ⟨fun e => by subst e; exact absurd (hlT.same HI8.out.box).1 (by decide), fun e => by subst e; exact absurd (hlT.same HI8.out.sta).1 (by decide)⟩
     have HB6 : Hid (w.heap.size ≤ T6) := (own_lies HI8.out.fab.tr (show z6.tv.ownBlock = some T6 by rw [e61]; rfl)).1
     clear hth hFin hKin hlT e61 hb8 HI7 HL7
     refine wp_region_still_tail 7 (by kernel_rfl) (by kernel_rfl) ?_
     simp only [List.take_succ_cons, List.take_zero, List.drop_succ_cons, List.drop_zero]
     change wpStill _ _ w7.drew (fun a' => wpList _ _ _ _ a' w7.drew) _ _
     generalize w7.drew = w8 at *
     iterate 5 still_step
     refine wpStill_step (fun K hK => ?_)
     rw [if_pos (by kernel_rfl)]
     refine still_load_mid _ _ rfl _ _ rfl _ hld7 (hK _ ?_)
     clear hK K
     still_step
     refine wpStill_nil ?_
     clear b2 hld7
     refine wpList_store_mid rfl 73 _ _ rfl T6 (i * 14) (thC (noSn x) (.slice none 0 0)) rfl rfl HTH.out infoThS (thC_one _ rfl) ?_
     have hmg2 : (S.th.map noSn)[i]? = some (noSn x) := by rw [List.getElem?_map, HX.out]; rfl
     have HI9 : Hid (LdS w (pgC A c (some ⟨qb, qo, none⟩) d p) (stC (.slice (some ⟨T8, 0, none⟩) p.ts.length ct) (.slice Ar p.rs.length cr) S.now S.rds S.en) F (ldT p S (mix (S.th.map noSn) (List.replicate p.ts.length thO) (i + 1)) (mix (S.th.map (·.sn)) (List.replicate p.ts.length []) (i + 1))) z6 (w8.setCells T6 (i * 14) (thC (noSn x) (.slice none 0 0)).toList)) := by
      refine ⟨HI8.out.bel.trans (HKI.out.below HI8.out.bel.size (fun k hk (e : k = T6) => by have := HB6.out; omega)), HI8.out.box.kept HKI.out (fun (e : w.heap.size = T6) => HT6.out.1 e.symm), HI8.out.sta.kept HKI.out (fun (e : w.heap.size + 1 = T6) => HT6.out.2 e.symm), ?_, HI8.out.hF⟩
      rw [← mix_set hml2 hmg2]
      exact HFI.out
     clear hmg2 hml2 HFI HKI HTH HT6 HB6 HI8 hN7l Fl Tl HIN HCD HXP HL HX
     generalize w8.setCells T6 (i * 14) (thC (noSn x) (.slice none 0 0)).toList = w9 at *
     go_wp2
     go_roundw
     case rel => exact ⟨i + 1, z6, by omega, by go_num, HI9⟩
     case measure => simp [intOf]; omega
    ·obtain rfl : i = p.ts.length := by omega
     have hI := HI.out
     have e1 : mix (S.th.map noSn) (List.replicate p.ts.length thO) p.ts.length = S.th.map noSn := by
      have := mix_all (a := S.th.map noSn) (b := List.replicate p.ts.length thO) (by rw [List.length_map, List.length_replicate]; exact HTL.out.1)
      rwa [List.length_map, HTL.out.1] at this
     have e2 : mix (S.th.map (·.sn)) (List.replicate p.ts.length []) p.ts.length = S.th.map (·.sn) := by
      have := mix_all (a := S.th.map (·.sn)) (b := List.replicate p.ts.length []) (by rw [List.length_map, List.length_replicate]; exact HTL.out.1)
      rwa [List.length_map, HTL.out.1] at this
     rw [e1, e2] at hI
     have HJ := Lib.hid hI
     clear hI e1 e2 HI
     have HST3 : Hid (∀ x L q, ThS wr F 5 6 7 (.int .u64 (S.now : Int)) (.int .u64 (S.rds : Int)) (.bool S.en) 11 14 17 x L q → Lies q (w.heap.size + 1) 39 (stC (.slice At p.ts.length ct) (.slice Ar p.rs.length cr) S.now S.rds S.en) ∧ ∃ cs, Lies q F 82 cs ∧ cs.size = 8) := fun x L q hq => by
      obtain ⟨cs, h1, h2⟩ := ths_box hq HJ.out.fab.box
      exact ⟨HJ.out.sta.kept (ths_kept hq) (fun (e : w.heap.size + 1 = F) => by have := HJ.out.hF; omega), cs, h1, h2⟩
     have HW0 := Lib.hid (ths_box (ths_start (w9 := wr) (F := F) (a := 5) (b := 6) (c := 7) (u := .int .u64 (S.now : Int)) (v := .int .u64 (S.rds : Int)) (s := .bool S.en) (i := 11) (j := 14) (k := 17) (x := fun _ => undef)) HJ.out.fab.box)
     go_upto_region 25 with (fail)
     refine wp_region_relyx (ThS wr F 5 6 7 (.int .u64 (S.now : Int)) (.int .u64 (S.rds : Int)) (.bool S.en) 11 14 17) (bfV [.eq (.pointer (some ⟨F, 0, none⟩)), .eq (.pointer (some ⟨F, 0, none⟩)), .eq (.pointer (some ⟨F, 0, none⟩)), .eq (.pointer (some ⟨w.heap.size + 1, 2, none⟩)), .eq (.int .u64 (S.now : Int)), .eq (.pointer (some ⟨w.heap.size + 1, 3, none⟩)), .eq (.int .u64 (S.rds : Int)), .eq (.pointer (some ⟨w.heap.size + 1, 4, none⟩)), .eq (.bool S.en), .eq (.pointer (some ⟨F, 0, none⟩)), .eq (.pointer (some ⟨F, 5, none⟩)), .any, .eq (.pointer (some ⟨F, 0, none⟩)), .eq (.pointer (some ⟨F, 6, none⟩)), .any, .eq (.pointer (some ⟨F, 0, none⟩)), .eq (.pointer (some ⟨F, 7, none⟩)), .any]) [some 119, some 120, some 121, some 122, some 123, some 124, some 125, some 126, some 127, some 128, some 129, none, some 130, some 131, none, some 132, some 133, none] [[], [], [], [], [3], [], [5], [], [7], [0], [9], [10, 4], [1], [12], [13, 6], [2], [15], [16, 8]] [[], [11], [11, 14], [], [3], [11], [5, 11], [11, 14], [7, 11, 14], [0, 3, 11], [0, 3, 9], [3, 4, 9, 10], [0, 1, 3, 4, 5, 9, 10, 11, 14], [0, 1, 3, 4, 5, 9, 10, 11, 12], [0, 3, 4, 5, 6, 9, 10, 11, 12, 13], [0, 1, 2, 3, 4, 5, 6, 7, 9, 10, 11, 12, 13, 14], [0, 1, 2, 3, 4, 5, 6, 7, 9, 10, 11, 12, 13, 14, 15], [0, 1, 3, 4, 5, 6, 7, 8, 9, 10, 11, 12, 13, 14, 15, 16]] [[1, 2, 3, 4, 5, 6, 7, 8], [0, 2, 3, 4, 5, 6, 7, 8, 9, 10], [0, 1, 3, 4, 5, 6, 7, 8, 9, 10, 12, 13], [0, 1, 2, 5, 6, 7, 8], [0, 1, 2, 5, 6, 7, 8], [0, 1, 2, 3, 4, 7, 8, 9, 10], [0, 1, 2, 3, 4, 7, 8, 9, 10], [0, 1, 2, 3, 4, 5, 6, 9, 10, 12, 13], [0, 1, 2, 3, 4, 5, 6, 9, 10, 12, 13], [1, 2, 4, 5, 6, 7, 8], [1, 2, 4, 5, 6, 7, 8], [1, 2, 5, 6, 7, 8], [2, 6, 7, 8], [2, 6, 7, 8], [2, 7, 8], [8, 17], [8], []] [0, 1, 2, 3, 4, 5, 6, 7, 8, 9, 10, 11, 12, 13, 14, 15, 16, 17] 18 (by kernel_rfl) (by kernel_rfl) (by kernel_rfl) (by kernel_rfl) ?rS (fun j h1 h2 => absurd (Nat.lt_of_lt_of_le h1 (Nat.le_trans (by decide) h2)) (Nat.lt_irrefl _)) ?rT ?rE
     case rS => exact ths_start
     case rT =>
      refine RelyStepsX.cons (RelyStepX.mk [] [1, 2, 3, 4, 5, 6, 7, 8] rfl rfl rfl (fun xv Lv wS hS hL hLd hV bq hb K hK => ?_)) ?_
      ·clear hV
       simp only [putsOf, List.foldl_cons, List.foldl_nil, List.getD_cons_zero, List.getD_cons_succ, List.getD_nil, cond_true, cond_false, Act.put, List.setIfInBounds_toArray, List.set_cons_zero, List.set_cons_succ] at hb
       subst hb
       rw [if_pos (by rfl)]
       go_wp2_with fail
       exact hK.out _ _ ⟨_, rfl, ths_op (i := 0) rfl hS, rfl, AllPX.same _⟩
      refine RelyStepsX.cons (RelyStepX.mk [] [0, 2, 3, 4, 5, 6, 7, 8, 9, 10] rfl rfl rfl (fun xv Lv wS hS hL hLd hV bq hb K hK => ?_)) ?_
      ·clear hV
       simp only [putsOf, List.foldl_cons, List.foldl_nil, List.getD_cons_zero, List.getD_cons_succ, List.getD_nil, cond_true, cond_false, Act.put, List.setIfInBounds_toArray, List.set_cons_zero, List.set_cons_succ] at hb
       subst hb
       rw [if_pos (by rfl)]
       go_wp2_with fail
       exact hK.out _ _ ⟨_, rfl, ths_op (i := 1) rfl hS, rfl, AllPX.same _⟩
      refine RelyStepsX.cons (RelyStepX.mk [] [0, 1, 3, 4, 5, 6, 7, 8, 9, 10, 12, 13] rfl rfl rfl (fun xv Lv wS hS hL hLd hV bq hb K hK => ?_)) ?_
      ·clear hV
       simp only [putsOf, List.foldl_cons, List.foldl_nil, List.getD_cons_zero, List.getD_cons_succ, List.getD_nil, cond_true, cond_false, Act.put, List.setIfInBounds_toArray, List.set_cons_zero, List.set_cons_succ] at hb
       subst hb
       rw [if_pos (by rfl)]
       go_wp2_with fail
       exact hK.out _ _ ⟨_, rfl, ths_op (i := 2) rfl hS, rfl, AllPX.same _⟩
      refine RelyStepsX.cons (RelyStepX.mk [] [0, 1, 2, 5, 6, 7, 8] rfl rfl rfl (fun xv Lv wS hS hL hLd hV bq hb K hK => ?_)) ?_
      ·clear hV
       simp only [putsOf, List.foldl_cons, List.foldl_nil, List.getD_cons_zero, List.getD_cons_succ, List.getD_nil, cond_true, cond_false, Act.put, List.setIfInBounds_toArray, List.set_cons_zero, List.set_cons_succ] at hb
       subst hb
       rw [if_pos (by rfl)]
       (obtain ⟨q1, _⟩ := HST3.out _ _ _ hS; have q2 := q1.lt)
       go_wp2_with fail
       exact hK.out _ _ ⟨_, rfl, ths_op (i := 3) rfl hS, rfl, AllPX.same _⟩
      refine RelyStepsX.cons (RelyStepX.mk [3] [0, 1, 2, 5, 6, 7, 8] rfl rfl rfl (fun xv Lv wS hS hL hLd hV bq hb K hK => ?_)) ?_
      ·obtain ⟨h3, _⟩ := hV
       have h3 : xv 3 = _ := h3
       simp only [putsOf, List.foldl_cons, List.foldl_nil, List.getD_cons_zero, List.getD_cons_succ, List.getD_nil, cond_true, cond_false, Act.put, List.setIfInBounds_toArray, List.set_cons_zero, List.set_cons_succ, h3] at hb
       clear h3
       subst hb
       rw [if_pos (by rfl)]
       (obtain ⟨q1, _⟩ := HST3.out _ _ _ hS; have q2 := q1.lt; have q3 := (q1.cell 2).trans (show _ = some (Value.int .u64 (S.now : Int)) from rfl))
       go_wp2_with fail
       exact hK.out _ _ ⟨_, rfl, ths_op (i := 4) rfl hS, rfl, AllPX.same _⟩
      refine RelyStepsX.cons (RelyStepX.mk [] [0, 1, 2, 3, 4, 7, 8, 9, 10] rfl rfl rfl (fun xv Lv wS hS hL hLd hV bq hb K hK => ?_)) ?_
      ·clear hV
       simp only [putsOf, List.foldl_cons, List.foldl_nil, List.getD_cons_zero, List.getD_cons_succ, List.getD_nil, cond_true, cond_false, Act.put, List.setIfInBounds_toArray, List.set_cons_zero, List.set_cons_succ] at hb
       subst hb
       rw [if_pos (by rfl)]
       (obtain ⟨q1, _⟩ := HST3.out _ _ _ hS; have q2 := q1.lt)
       go_wp2_with fail
       exact hK.out _ _ ⟨_, rfl, ths_op (i := 5) rfl hS, rfl, AllPX.same _⟩
      refine RelyStepsX.cons (RelyStepX.mk [5] [0, 1, 2, 3, 4, 7, 8, 9, 10] rfl rfl rfl (fun xv Lv wS hS hL hLd hV bq hb K hK => ?_)) ?_
      ·obtain ⟨h5, _⟩ := hV
       have h5 : xv 5 = _ := h5
       simp only [putsOf, List.foldl_cons, List.foldl_nil, List.getD_cons_zero, List.getD_cons_succ, List.getD_nil, cond_true, cond_false, Act.put, List.setIfInBounds_toArray, List.set_cons_zero, List.set_cons_succ, h5] at hb
       clear h5
       subst hb
       rw [if_pos (by rfl)]
       (obtain ⟨q1, _⟩ := HST3.out _ _ _ hS; have q2 := q1.lt; have q3 := (q1.cell 3).trans (show _ = some (Value.int .u64 (S.rds : Int)) from rfl))
       go_wp2_with fail
       exact hK.out _ _ ⟨_, rfl, ths_op (i := 6) rfl hS, rfl, AllPX.same _⟩
      refine RelyStepsX.cons (RelyStepX.mk [] [0, 1, 2, 3, 4, 5, 6, 9, 10, 12, 13] rfl rfl rfl (fun xv Lv wS hS hL hLd hV bq hb K hK => ?_)) ?_
      ·clear hV
       simp only [putsOf, List.foldl_cons, List.foldl_nil, List.getD_cons_zero, List.getD_cons_succ, List.getD_nil, cond_true, cond_false, Act.put, List.setIfInBounds_toArray, List.set_cons_zero, List.set_cons_succ] at hb
       subst hb
       rw [if_pos (by rfl)]
       (obtain ⟨q1, _⟩ := HST3.out _ _ _ hS; have q2 := q1.lt)
       go_wp2_with fail
       exact hK.out _ _ ⟨_, rfl, ths_op (i := 7) rfl hS, rfl, AllPX.same _⟩
      refine RelyStepsX.cons (RelyStepX.mk [7] [0, 1, 2, 3, 4, 5, 6, 9, 10, 12, 13] rfl rfl rfl (fun xv Lv wS hS hL hLd hV bq hb K hK => ?_)) ?_
      ·obtain ⟨h7, _⟩ := hV
       have h7 : xv 7 = _ := h7
       simp only [putsOf, List.foldl_cons, List.foldl_nil, List.getD_cons_zero, List.getD_cons_succ, List.getD_nil, cond_true, cond_false, Act.put, List.setIfInBounds_toArray, List.set_cons_zero, List.set_cons_succ, h7] at hb
       clear h7
       subst hb
       rw [if_pos (by rfl)]
       (obtain ⟨q1, _⟩ := HST3.out _ _ _ hS; have q2 := q1.lt; have q3 := (q1.cell 4).trans (show _ = some (Value.bool S.en) from rfl))
       go_wp2_with fail
       exact hK.out _ _ ⟨_, rfl, ths_op (i := 8) rfl hS, rfl, AllPX.same _⟩
      refine RelyStepsX.cons (RelyStepX.mk [0] [1, 2, 4, 5, 6, 7, 8] rfl rfl rfl (fun xv Lv wS hS hL hLd hV bq hb K hK => ?_)) ?_
      ·obtain ⟨h0, _⟩ := hV
       have h0 : xv 0 = _ := h0
       simp only [putsOf, List.foldl_cons, List.foldl_nil, List.getD_cons_zero, List.getD_cons_succ, List.getD_nil, cond_true, cond_false, Act.put, List.setIfInBounds_toArray, List.set_cons_zero, List.set_cons_succ, h0] at hb
       clear h0
       subst hb
       rw [if_pos (by rfl)]
       (obtain ⟨_, cs5, q1, _⟩ := HST3.out _ _ _ hS; have q2 := q1.lt)
       go_wp2_with fail
       exact hK.out _ _ ⟨_, rfl, ths_op (i := 9) rfl hS, rfl, AllPX.same _⟩
      refine RelyStepsX.cons (RelyStepX.mk [9] [1, 2, 4, 5, 6, 7, 8] rfl rfl rfl (fun xv Lv wS hS hL hLd hV bq hb K hK => ?_)) ?_
      ·obtain ⟨h9, _⟩ := hV
       have h9 : xv 9 = _ := h9
       simp only [putsOf, List.foldl_cons, List.foldl_nil, List.getD_cons_zero, List.getD_cons_succ, List.getD_nil, cond_true, cond_false, Act.put, List.setIfInBounds_toArray, List.set_cons_zero, List.set_cons_succ, h9] at hb
       clear h9
       subst hb
       rw [if_pos (by rfl)]
       go_wp2_with fail
       exact hK.out _ _ ⟨_, rfl, ths_op (i := 10) rfl hS, rfl, AllPX.same _⟩
      refine RelyStepsX.cons (RelyStepX.mk [10, 4] [1, 2, 5, 6, 7, 8] rfl rfl rfl (fun xv Lv wS hS hL hLd hV bq hb K hK => ?_)) ?_
      ·obtain ⟨h10, h4, _⟩ := hV
       have h10 : xv 10 = _ := h10
       have h4 : xv 4 = _ := h4
       simp only [putsOf, List.foldl_cons, List.foldl_nil, List.getD_cons_zero, List.getD_cons_succ, List.getD_nil, cond_true, cond_false, Act.put, List.setIfInBounds_toArray, List.set_cons_zero, List.set_cons_succ, h10, h4] at hb
       clear h10
       clear h4
       subst hb
       rw [if_pos (by rfl)]
       obtain ⟨_, cs5, q1, q3⟩ := HST3.out _ _ _ hS
       have q2 := q1.lt
       have q4 := (q1.cell 5).trans (Array.getElem?_eq_getElem (by omega))
       have q5 := q1.free 5
       have HSS := Lib.hid hS
       clear hS q1
       go_wp2_with fail
       exact hK.out _ _ ⟨undef, rfl, ths_1 HSS.out rfl, trivial, AllPX.of _ (fun j hj _ h => bfV_lit (by rfl) hj h)⟩
      refine RelyStepsX.cons (RelyStepX.mk [1] [2, 6, 7, 8] rfl rfl rfl (fun xv Lv wS hS hL hLd hV bq hb K hK => ?_)) ?_
      ·obtain ⟨h1, _⟩ := hV
       have h1 : xv 1 = _ := h1
       simp only [putsOf, List.foldl_cons, List.foldl_nil, List.getD_cons_zero, List.getD_cons_succ, List.getD_nil, cond_true, cond_false, Act.put, List.setIfInBounds_toArray, List.set_cons_zero, List.set_cons_succ, h1] at hb
       clear h1
       subst hb
       rw [if_pos (by rfl)]
       (obtain ⟨_, cs5, q1, _⟩ := HST3.out _ _ _ hS; have q2 := q1.lt)
       go_wp2_with fail
       exact hK.out _ _ ⟨_, rfl, ths_op (i := 12) rfl hS, rfl, AllPX.same _⟩
      refine RelyStepsX.cons (RelyStepX.mk [12] [2, 6, 7, 8] rfl rfl rfl (fun xv Lv wS hS hL hLd hV bq hb K hK => ?_)) ?_
      ·obtain ⟨h12, _⟩ := hV
       have h12 : xv 12 = _ := h12
       simp only [putsOf, List.foldl_cons, List.foldl_nil, List.getD_cons_zero, List.getD_cons_succ, List.getD_nil, cond_true, cond_false, Act.put, List.setIfInBounds_toArray, List.set_cons_zero, List.set_cons_succ, h12] at hb
       clear h12
       subst hb
       rw [if_pos (by rfl)]
       go_wp2_with fail
       exact hK.out _ _ ⟨_, rfl, ths_op (i := 13) rfl hS, rfl, AllPX.same _⟩
      refine RelyStepsX.cons (RelyStepX.mk [13, 6] [2, 7, 8] rfl rfl rfl (fun xv Lv wS hS hL hLd hV bq hb K hK => ?_)) ?_
      ·obtain ⟨h13, h6, _⟩ := hV
       have h13 : xv 13 = _ := h13
       have h6 : xv 6 = _ := h6
       simp only [putsOf, List.foldl_cons, List.foldl_nil, List.getD_cons_zero, List.getD_cons_succ, List.getD_nil, cond_true, cond_false, Act.put, List.setIfInBounds_toArray, List.set_cons_zero, List.set_cons_succ, h13, h6] at hb
       clear h13
       clear h6
       subst hb
       rw [if_pos (by rfl)]
       obtain ⟨_, cs5, q1, q3⟩ := HST3.out _ _ _ hS
       have q2 := q1.lt
       have q4 := (q1.cell 6).trans (Array.getElem?_eq_getElem (by omega))
       have q5 := q1.free 6
       have HSS := Lib.hid hS
       clear hS q1
       go_wp2_with fail
       exact hK.out _ _ ⟨undef, rfl, ths_2 HSS.out rfl (hLd 11 (by decide +kernel)), trivial, AllPX.of _ (fun j hj _ h => bfV_lit (by rfl) hj h)⟩
      refine RelyStepsX.cons (RelyStepX.mk [2] [8, 17] rfl rfl rfl (fun xv Lv wS hS hL hLd hV bq hb K hK => ?_)) ?_
      ·obtain ⟨h2, _⟩ := hV
       have h2 : xv 2 = _ := h2
       simp only [putsOf, List.foldl_cons, List.foldl_nil, List.getD_cons_zero, List.getD_cons_succ, List.getD_nil, cond_true, cond_false, Act.put, List.setIfInBounds_toArray, List.set_cons_zero, List.set_cons_succ, h2] at hb
       clear h2
       subst hb
       rw [if_pos (by rfl)]
       (obtain ⟨_, cs5, q1, _⟩ := HST3.out _ _ _ hS; have q2 := q1.lt)
       go_wp2_with fail
       exact hK.out _ _ ⟨_, rfl, ths_op (i := 15) rfl hS, rfl, AllPX.same _⟩
      refine RelyStepsX.cons (RelyStepX.mk [15] [8] rfl rfl rfl (fun xv Lv wS hS hL hLd hV bq hb K hK => ?_)) ?_
      ·obtain ⟨h15, _⟩ := hV
       have h15 : xv 15 = _ := h15
       simp only [putsOf, List.foldl_cons, List.foldl_nil, List.getD_cons_zero, List.getD_cons_succ, List.getD_nil, cond_true, cond_false, Act.put, List.setIfInBounds_toArray, List.set_cons_zero, List.set_cons_succ, h15] at hb
       clear h15
       subst hb
       rw [if_pos (by rfl)]
       go_wp2_with fail
       exact hK.out _ _ ⟨_, rfl, ths_op (i := 16) rfl hS, rfl, AllPX.same _⟩
      refine RelyStepsX.cons (RelyStepX.mk [16, 8] [] rfl rfl rfl (fun xv Lv wS hS hL hLd hV bq hb K hK => ?_)) ?_
      ·obtain ⟨h16, h8, _⟩ := hV
       have h16 : xv 16 = _ := h16
       have h8 : xv 8 = _ := h8
       simp only [putsOf, List.foldl_cons, List.foldl_nil, List.getD_cons_zero, List.getD_cons_succ, List.getD_nil, cond_true, cond_false, Act.put, List.setIfInBounds_toArray, List.set_cons_zero, List.set_cons_succ, h16, h8] at hb
       clear h16
       clear h8
       subst hb
       rw [if_pos (by rfl)]
       obtain ⟨_, cs5, q1, q3⟩ := HST3.out _ _ _ hS
       have q2 := q1.lt
       have q4 := (q1.cell 7).trans (Array.getElem?_eq_getElem (by omega))
       have q5 := q1.free 7
       have HSS := Lib.hid hS
       clear hS q1
       go_wp2_with fail
       exact hK.out _ _ ⟨undef, rfl, ths_3 HSS.out rfl (hLd 11 (by decide +kernel)) (hLd 14 (by decide +kernel)), trivial, AllPX.of _ (fun j hj _ h => bfV_lit (by rfl) hj h)⟩
      exact RelyStepsX.nil
     case rE =>
     intro xv Lv wE hS hLall hV
     have h17 := hV 17 (by decide) (by decide)
     clear hV
     simp only [putsOf, List.foldl_cons, List.foldl_nil, List.getD_cons_zero, List.getD_cons_succ, List.getD_nil, cond_true, cond_false, Act.put, List.setIfInBounds_toArray, List.set_cons_zero, List.set_cons_succ]
     generalize xv 0 = y0 at *
     generalize xv 1 = y1 at *
     generalize xv 2 = y2 at *
     generalize xv 3 = y3 at *
     generalize xv 4 = y4 at *
     generalize xv 5 = y5 at *
     generalize xv 6 = y6 at *
     generalize xv 7 = y7 at *
     generalize xv 8 = y8 at *
     generalize xv 9 = y9 at *
     generalize xv 10 = y10 at *
     generalize xv 11 = y11 at *
     generalize xv 12 = y12 at *
     generalize xv 13 = y13 at *
     generalize xv 14 = y14 at *
     generalize xv 15 = y15 at *
     generalize xv 16 = y16 at *
     generalize xv 17 = y17 at *
     have h3 := hS.2.2
     rw [if_pos (hLall 17 (by decide +kernel))] at h3
     have hk := ths_kept hS
     have hbx := (((HJ.out.fab.box.drewN 1).put 5 (.int .u64 (S.now : Int))).put 6 (.int .u64 (S.rds : Int))).put 7 (.bool S.en)
     rw [← h3] at hbx
     have n3 : ∀ {r e cur}, Lies wr r e cur → e ≠ 82 → ¬ oneRow F r := fun {r e cur} h4 h5 (h6 : r = F) => by subst h6; exact h5 (h4.same HJ.out.fab.box).1
     have HFI : Hid (FabAt wE w.heap.size F (ldF p S) z) := by
      have hf := HJ.out.fab
      exact ⟨hbx, hf.pg.kept hk (fun r e cur he h1 => n3 h1 (by rcases he with rfl | rfl | rfl <;> decide)), owns_kept hf.tr hk (fun r cur _ h1 => n3 h1 (by decide)), hf.sr.kept hk (fun r a _ h1 => n3 h1 (by decide)) (fun _ r a _ _ h1 => n3 h1 (by decide)), hf.lr.kept hk (fun r cur h1 => n3 h1 (by decide)), hf.hB⟩
     have HBE := Lib.hid (HJ.out.bel.trans (hk.below HJ.out.bel.size (fun k hk2 (e : k = F) => by have := HJ.out.hF; omega)))
     have HFH := Lib.hid HJ.out.hF
     clear hS hLall h3 hk hbx n3 HJ HST3
     go_wp2
     go_ret2
     exact ⟨F, z, rfl, by have := HFH.out; omega, HFI.out, HBE.out⟩
end
def eC : Ev := ⟨0, 1, 0, 0, 0⟩
def eN : Ev := ⟨0, 5, 0, 0, 0⟩
def eP : Ev := ⟨0, 2, 0, 0, 0⟩
def eC1 : Ev := ⟨0, 1, 0, 1, 0⟩
def eS : Ev := ⟨0, 12, 0, 0, 0⟩
theorem evOk17 {e : Ev} (h : e = eC ∨ e = eN ∨ e = eP ∨ e = eC1 ∨ e = eS) : evOk e := by
 rcases h with rfl | rfl | rfl | rfl | rfl <;> (unfold evOk evI64; simp [eC, eN, eP, eC1, eS])
def fa0 : Fb := newF smP
def fa1 : Fb := doF fa0 eC
def fa2 : Fb := doF fa1 eC
def fa3 : Fb := doF fa2 eP
def fa4 : Fb := doF fa3 eN
def fa5 : Fb := feedF fa4 eC1
def fa6 : Fb := feedF fa5 eS
theorem ca1 : (askO fa0 0).kd = 1 ∧ (askO fa0 0).vl = 5 ∧ askE fa0 0 = 0 ∧ askE fa0 1 = 5 := by decide +kernel
theorem ca2 : alwB fa0 eC = true ∧ alwB fa0 eN = false := by decide +kernel
theorem ca3 : fdoE fa0 eC = 0 ∧ fdoE fa1 eC = 11 ∧ fdoE fa2 eP = 0 ∧ fdoE fa3 eN = 0 := by decide +kernel
theorem ca4 : feedE fa4 eC1 = 8 ∧ feedE fa5 eS = 11 := by decide +kernel
theorem ca5 : runsB fa6 0 = true ∧ overB fa6 = false ∧ fa6.now = 0 ∧ seenO fa6 0 = [] := by decide +kernel
theorem ca6 : (thI fa4 0).r 2 = 1 ∧ (rsOf (lnN fa4 0)).tl = 1 ∧ fa4.p.ts.length = 1 ∧ fa4.p.rs.length = 1 := by decide +kernel
theorem ca7 : (stF fa4).th.length = 1 ∧ (stF fa4).rg.length = 1 ∧ fa4.p = smP := ⟨rfl, rfl, rfl⟩
theorem ca8 : rightP ⟨[], []⟩ = false := by decide +kernel
theorem ca9 : loadsB 1 1 (rsOf (lnN fa4 0)).tl false (rsOf (lnN fa4 0)).hs (rsOf (lnN fa4 0)).sl = true := by decide +kernel
theorem ca10 : (rsOf (lnN fa4 0)).sl.all (fun x => decide (x.s < 18446744073709551616 ∧ x.v < 18446744073709551616 ∧ -9223372036854775808 ≤ x.l ∧ x.l ≤ 9223372036854775807)) = true := by decide +kernel
theorem ca11 : thB smL (thI fa4 0) = true ∧ (thI fa4 0).sn = [] ∧ gaveB (newL smP (ldL smP (stF fa4))) (askX smL (thI fa4 0)) = true ∧ (askX smL (thI fa4 0)).kd = 1 := by decide +kernel
theorem rg_first (f : Fb) (h : 0 < f.p.rs.length) : (stF f).rg[0]? = some (rsOf (lnN f 0)) := by
 show (rgsF f f.p.rs.length)[0]? = _
 unfold rgsF
 rw [List.getElem?_map, List.getElem?_range h]; rfl
theorem th_first (f : Fb) (h : 0 < f.p.ts.length) : (stF f).th[0]? = some (thI f 0) := by
 show (thsF f f.p.ts.length)[0]? = _
 unfold thsF
 rw [List.getElem?_map, List.getElem?_range h]; rfl
theorem stF_nb {f : Fb} {a : Nat} (h : f.now ≤ a ∧ f.rds ≤ a) : (stF f).now ≤ a ∧ (stF f).rds ≤ a := h
theorem pg_none (w : World) : PgAt w none 0 none 0 ⟨[], []⟩ :=
 ⟨SeqS.of_owns (World.ownsRow_nil w 0 84 3), [], SeqS.of_owns (World.ownsRow_nil w 0 78 1), fun i l hl => by cases hl⟩
theorem ld4 (ok : FbOk fa4) : LdOk smP (stF fa4) := by
 have hp := ca7.2.2
 refine ⟨smP_ok, smP_right, ca7.1, ca7.2.1, fun i r s hr hs => ?_, fun t l x hl hx => ?_, stF_nb ok.nb⟩
 ·have hi : i = 0 := by have := (List.getElem?_eq_some_iff.1 hr).1; simp only [smP, List.length_singleton] at this; omega
  subst hi
  simp only [smP, List.getElem?_cons_zero, Option.some.injEq] at hr
  subst hr
  have e : (stF fa4).rg[0]? = some (rsOf (lnN fa4 0)) := by exact rg_first fa4 (by rw [hp]; decide)
  rw [e] at hs
  simp only [Option.some.injEq] at hs
  subst hs
  refine ⟨ca9, fun x hx => ?_⟩
  have h7 := of_decide_eq_true (List.all_eq_true.1 ca10 x hx)
  exact h7
 ·have hi : t = 0 := by have := (List.getElem?_eq_some_iff.1 hl).1; simp only [smP, List.length_singleton] at this; omega
  subst hi
  simp only [smP, List.getElem?_cons_zero, Option.some.injEq] at hl
  subst hl
  have e : (stF fa4).th[0]? = some (thI fa4 0) := by exact th_first fa4 (by rw [hp]; decide)
  rw [e] at hx
  simp only [Option.some.injEq] at hx
  subst hx
  obtain ⟨a1, a2, a3, a4⟩ := ca11
  obtain ⟨h1, _, ⟨b1, b2, b3, b4, b5, b6, _⟩, _⟩ := thr_get ok (t := 0) (by rw [hp]; decide)
  refine ⟨a1, ⟨b1, b2, b3, b4, b5, b6, fun n hn => by rw [a2] at hn; cases hn⟩, by rw [a2]; decide, a3, fun h => by rw [a4] at h; omega⟩
theorem good0 : FbGood fa0 0 := newF_good smP_ok smP_right
def AwP (w : World) (e : Ending) (w' : World) : Prop := e = .returned (.bool true) ∧ Below w.heap.size w w'
set_option maxHeartbeats 16000000 in
set_option maxRecDepth 100000 in
theorem awake_any (w : World) : Calls Tryz.prog 9 #[] w (AwP w) := by
 have HS0 := Lib.hid (smp17 w)
 have HBR := Lib.hid (Below.refl w.heap.size w)
 go_enter Tryz.func9, Tryz.ntmps9
 go_wp2_with fail
 refine HS0.out.mono ?_
 rintro e w1 ⟨A, Q, rfl, hp1, hb1⟩
 have HN1 := Lib.hid (fbNew smP A 1 Q 1 w1 hp1 smP_ok smP_right)
 have HB1 := Lib.hid hb1
 clear hp1 hb1 HS0
 go_wp2_with fail
 refine HN1.out.mono ?_
 rintro e w2 ⟨F, z, rfl, hF, hf, hb2⟩
 have HB2 := Lib.hid (HB1.out.trans (hb2.mono HB1.out.size))
 have HL2 : Hid (LwAt w.heap.size F w2.heap.size w2.heap.size fa0 0 z w2) := LwAt.start (hf.mono HB1.out.size) good0
 have hFw := Nat.le_trans HB1.out.size hF
 clear hF hf hb2 HN1 HB1 HBR
 have HN2 := Lib.hid (fbNewNo ⟨[], []⟩ none 0 none 0 w2 (pg_none w2) ⟨fun x hx => (by cases hx), fun l hl => (by cases hl)⟩ ca8)
 go_wp2_with fail
 refine HN2.out.mono ?_
 rintro e w3 ⟨rfl, hb3⟩
 have HB3 := Lib.hid (HB2.out.trans (hb3.mono HB2.out.size))
 have HL3 := Lib.hid (HL2.out.later hb3)
 clear hb3 HB2 HL2 HN2
 have hb4 : Below w3.heap.size w3 ((w3.alloc (.cells #[.int .i64 0, .int .i64 1, .int .i64 0, .int .u64 0, .int .u64 0] 43)).alloc (.cells #[.int .i64 0, .int .i64 5, .int .i64 0, .int .u64 0, .int .u64 0] 43)) := ((Below.refl _ _).alloc (Nat.le_refl _) _).alloc (by simp) _
 have lC := (Lies.made w3 43 #[.int .i64 0, .int .i64 1, .int .i64 0, .int .u64 0, .int .u64 0]).alloc (.cells #[.int .i64 0, .int .i64 5, .int .i64 0, .int .u64 0, .int .u64 0] 43)
 have lN := Lies.made (w3.alloc (.cells #[.int .i64 0, .int .i64 1, .int .i64 0, .int .u64 0, .int .u64 0] 43)) 43 #[.int .i64 0, .int .i64 5, .int .i64 0, .int .u64 0, .int .u64 0]
 rw [World.size_alloc] at lN
 have HB4 := Lib.hid (HB3.out.trans (hb4.mono HB3.out.size))
 have HL4 := Lib.hid (HL3.out.later hb4)
 have LC4 := Lib.hid lC
 have LN4 := Lib.hid lN
 have HZ : Hid (w.heap.size ≤ w3.heap.size) := HB3.out.size
 clear hb4 lC lN HB3 HL3
 go_upto_region 6 with (fail)
 generalize hw4 : (w3.alloc (.cells #[.int .i64 0, .int .i64 1, .int .i64 0, .int .u64 0, .int .u64 0] 43)).alloc (.cells #[.int .i64 0, .int .i64 5, .int .i64 0, .int .u64 0, .int .u64 0] 43) = w4 at *
 clear hw4
 generalize w3.heap.size = NC at *
 have HA0 := Lib.hid (fbAskO 0 HL4.out.fab HL4.out.good.ok)
 go_wp2_with fail
 refine HA0.out.mono ?_
 rintro e w5 ⟨rfl, hb5⟩
 obtain ⟨ka, kb, kc, kd⟩ := ca1
 rw [kc]
 generalize hax : askO fa0 0 = ax at *
 have KA : Hid (ax.kd = 1 ∧ ax.vl = 5) := ⟨ka, kb⟩
 clear hax ka kb
 have HB5 := Lib.hid (HB4.out.trans (hb5.mono HB4.out.size))
 have HL5 := Lib.hid (HL4.out.later hb5)
 have LC5 := Lib.hid (LC4.out.below hb5 LC4.out.lt)
 have LN5 := Lib.hid (LN4.out.below hb5 LN4.out.lt)
 clear hb5 HA0 HB4 HL4 LC4 LN4
 have hb6 : Below w5.heap.size w5 (w5.alloc (.cells (akC ax) 63)) := (Below.refl _ _).alloc (Nat.le_refl _) _
 have HA6 := Lib.hid (Lies.made w5 63 (akC ax))
 have HB6 := Lib.hid (HB5.out.trans (hb6.mono HB5.out.size))
 have HL6 := Lib.hid (HL5.out.later hb6)
 have LC6 := Lib.hid (LC5.out.below hb6 LC5.out.lt)
 have LN6 := Lib.hid (LN5.out.below hb6 LN5.out.lt)
 clear hb6 HB5 HL5 LC5 LN5
 go_upto_region 7 with (fail)
 generalize hw6 : w5.alloc (.cells (akC ax) 63) = w6 at *
 clear hw6
 generalize w5.heap.size = NA at *
 have HA0 := Lib.hid (fbAskO 1 HL6.out.fab HL6.out.good.ok)
 rw [kd] at HA0
 generalize hax : askO fa0 1 = ay at *
 clear hax
 go_wp2_with fail
 refine HA0.out.mono ?_
 rintro e w7 ⟨rfl, hb7⟩
 have HB7 := Lib.hid (HB6.out.trans (hb7.mono HB6.out.size))
 have HL7 := Lib.hid (HL6.out.later hb7)
 have LC7 := Lib.hid (LC6.out.below hb7 LC6.out.lt)
 have LN7 := Lib.hid (LN6.out.below hb7 LN6.out.lt)
 have LA7 := Lib.hid (HA6.out.below hb7 HA6.out.lt)
 clear hb7 HA0 HB6 HL6 LC6 LN6 HA6 kd kc
 have hb8 : Below w7.heap.size w7 (w7.alloc (.cells (akC ay) 63)) := (Below.refl _ _).alloc (Nat.le_refl _) _
 have HB8 := Lib.hid (HB7.out.trans (hb8.mono HB7.out.size))
 have HL8 := Lib.hid (HL7.out.later hb8)
 have LC8 := Lib.hid (LC7.out.below hb8 LC7.out.lt)
 have LN8 := Lib.hid (LN7.out.below hb8 LN7.out.lt)
 have LA8 := Lib.hid (LA7.out.below hb8 LA7.out.lt)
 clear hb8 HB7 HL7 LC7 LN7 LA7
 go_upto_region 8 with (fail)
 generalize hw8 : w7.alloc (.cells (akC ay) 63) = w8 at *
 clear hw8
 generalize w7.heap.size = NY at *
 have HAL := Lib.hid (fun (q : World) (hq : Below w8.heap.size w8 q) => by
  have := lwAllowed (e := eC) (evOk17 (.inl rfl)) (HL8.out.later hq)
  rw [ca2.1] at this
  exact this)
 have HAN := Lib.hid (fun (q : World) (hq : Below w8.heap.size w8 q) => by
  have := lwAllowed (e := eN) (evOk17 (.inr (.inl rfl))) (HL8.out.later hq)
  rw [ca2.2] at this
  exact this)
 have HEC : Hid (∀ q, Below w8.heap.size w8 q → (q.cell? ⟨NC, 0, none⟩ = some (.int .i64 0) ∧ q.cell? ⟨NC, 1, none⟩ = some (.int .i64 1) ∧ q.cell? ⟨NC, 2, none⟩ = some (.int .i64 0) ∧ q.cell? ⟨NC, 3, none⟩ = some (.int .u64 0) ∧ q.cell? ⟨NC, 4, none⟩ = some (.int .u64 0) ∧ NC < q.heap.size) ∧
   (q.cell? ⟨NC + 1, 0, none⟩ = some (.int .i64 0) ∧ q.cell? ⟨NC + 1, 1, none⟩ = some (.int .i64 5) ∧ q.cell? ⟨NC + 1, 2, none⟩ = some (.int .i64 0) ∧ q.cell? ⟨NC + 1, 3, none⟩ = some (.int .u64 0) ∧ q.cell? ⟨NC + 1, 4, none⟩ = some (.int .u64 0) ∧ NC + 1 < q.heap.size)) := fun q hq => by
  have l1 := LC8.out.below hq LC8.out.lt
  have l2 := LN8.out.below hq LN8.out.lt
  exact ⟨⟨l1.cell 0, l1.cell 1, l1.cell 2, l1.cell 3, l1.cell 4, l1.lt⟩, l2.cell 0, l2.cell 1, l2.cell 2, l2.cell 3, l2.cell 4, l2.lt⟩
 refine wp_region_rely (fun q => Below w8.heap.size w8 q) (bfV [.eq (.pointer (some ⟨F, 0, none⟩)), .eq (.agg #[.int .i64 0, .int .i64 1, .int .i64 0, .int .u64 0, .int .u64 0]), .eq (.bool true), .eq (.pointer (some ⟨F, 0, none⟩)), .eq (.agg #[.int .i64 0, .int .i64 5, .int .i64 0, .int .u64 0, .int .u64 0]), .eq (.bool false), .eq (.bool true), .eq (.bool false)]) [some 46, some 47, some 48, some 49, some 50, some 51, some 11, some 12] [[], [], [0, 1], [], [], [3, 4], [2], [5]] [[], [], [0, 1], [], [], [0, 1, 3, 4], [0, 1, 2, 3, 4], [0, 1, 2, 3, 4, 5]] [[1, 3, 4, 5], [0, 3, 4, 5], [3, 4], [0, 1, 2, 4, 6], [0, 1, 2, 3, 6], [2], [5], [6]] [0, 1, 2, 3, 4, 5, 6, 7] 8 (by kernel_rfl) (by kernel_rfl) (by kernel_rfl) (by kernel_rfl) ?rS (fun j h1 h2 => absurd (Nat.lt_of_lt_of_le h1 (Nat.le_trans (by decide) h2)) (Nat.lt_irrefl _)) ?rT ?rE
 case rS => exact below_drewN (Below.refl _ _) 1
 case rT =>
  refine RelySteps.cons (RelyStep.mk [] [1, 3, 4, 5] rfl rfl rfl (fun xv wS hS hV bq hb K hK => ?_)) ?_
  ·clear hV
   simp only [putsOf, List.foldl_cons, List.foldl_nil, List.getD_cons_zero, List.getD_cons_succ, List.getD_nil, cond_true, cond_false, Act.put, List.setIfInBounds_toArray, List.set_cons_zero, List.set_cons_succ] at hb
   subst hb
   rw [if_pos (by rfl)]
   go_wp2_with fail
   exact hK.out _ _ ⟨_, rfl, hS, rfl, AllP.same _⟩
  refine RelySteps.cons (RelyStep.mk [] [0, 3, 4, 5] rfl rfl rfl (fun xv wS hS hV bq hb K hK => ?_)) ?_
  ·clear hV
   simp only [putsOf, List.foldl_cons, List.foldl_nil, List.getD_cons_zero, List.getD_cons_succ, List.getD_nil, cond_true, cond_false, Act.put, List.setIfInBounds_toArray, List.set_cons_zero, List.set_cons_succ] at hb
   subst hb
   rw [if_pos (by rfl)]
   (obtain ⟨⟨q0, q1, q2, q3, q4, q5⟩, _⟩ := HEC.out _ hS)
   go_wp2_with fail
   exact hK.out _ _ ⟨_, rfl, hS, rfl, AllP.same _⟩
  refine RelySteps.cons (RelyStep.mk [0, 1] [3, 4] rfl rfl rfl (fun xv wS hS hV bq hb K hK => ?_)) ?_
  ·obtain ⟨h0, h1, _⟩ := hV
   have h0 : xv 0 = _ := h0
   have h1 : xv 1 = _ := h1
   simp only [putsOf, List.foldl_cons, List.foldl_nil, List.getD_cons_zero, List.getD_cons_succ, List.getD_nil, cond_true, cond_false, Act.put, List.setIfInBounds_toArray, List.set_cons_zero, List.set_cons_succ, h0, h1] at hb
   clear h0
   clear h1
   subst hb
   rw [if_pos (by rfl)]
   have HSS := Lib.hid hS
   clear hS
   go_wp2_with fail
   refine (HAL.out wS HSS.out).mono ?_
   rintro e w5 ⟨rfl, hb5⟩
   exact hK.out _ _ ⟨_, rfl, then_ HSS.out hb5, rfl, AllP.of _ (fun j _ _ h => bfV_below hb5 h)⟩
  refine RelySteps.cons (RelyStep.mk [] [0, 1, 2, 4, 6] rfl rfl rfl (fun xv wS hS hV bq hb K hK => ?_)) ?_
  ·clear hV
   simp only [putsOf, List.foldl_cons, List.foldl_nil, List.getD_cons_zero, List.getD_cons_succ, List.getD_nil, cond_true, cond_false, Act.put, List.setIfInBounds_toArray, List.set_cons_zero, List.set_cons_succ] at hb
   subst hb
   rw [if_pos (by rfl)]
   go_wp2_with fail
   exact hK.out _ _ ⟨_, rfl, hS, rfl, AllP.same _⟩
  refine RelySteps.cons (RelyStep.mk [] [0, 1, 2, 3, 6] rfl rfl rfl (fun xv wS hS hV bq hb K hK => ?_)) ?_
  ·clear hV
   simp only [putsOf, List.foldl_cons, List.foldl_nil, List.getD_cons_zero, List.getD_cons_succ, List.getD_nil, cond_true, cond_false, Act.put, List.setIfInBounds_toArray, List.set_cons_zero, List.set_cons_succ] at hb
   subst hb
   rw [if_pos (by rfl)]
   (obtain ⟨_, q0, q1, q2, q3, q4, q5⟩ := HEC.out _ hS)
   go_wp2_with fail
   exact hK.out _ _ ⟨_, rfl, hS, rfl, AllP.same _⟩
  refine RelySteps.cons (RelyStep.mk [3, 4] [2] rfl rfl rfl (fun xv wS hS hV bq hb K hK => ?_)) ?_
  ·obtain ⟨h3, h4, _⟩ := hV
   have h3 : xv 3 = _ := h3
   have h4 : xv 4 = _ := h4
   simp only [putsOf, List.foldl_cons, List.foldl_nil, List.getD_cons_zero, List.getD_cons_succ, List.getD_nil, cond_true, cond_false, Act.put, List.setIfInBounds_toArray, List.set_cons_zero, List.set_cons_succ, h3, h4] at hb
   clear h3
   clear h4
   subst hb
   rw [if_pos (by rfl)]
   have HSS := Lib.hid hS
   clear hS
   go_wp2_with fail
   refine (HAN.out wS HSS.out).mono ?_
   rintro e w5 ⟨rfl, hb5⟩
   exact hK.out _ _ ⟨_, rfl, then_ HSS.out hb5, rfl, AllP.of _ (fun j _ _ h => bfV_below hb5 h)⟩
  refine RelySteps.cons (RelyStep.mk [2] [5] rfl rfl rfl (fun xv wS hS hV bq hb K hK => ?_)) ?_
  ·obtain ⟨h2, _⟩ := hV
   have h2 : xv 2 = _ := h2
   simp only [putsOf, List.foldl_cons, List.foldl_nil, List.getD_cons_zero, List.getD_cons_succ, List.getD_nil, cond_true, cond_false, Act.put, List.setIfInBounds_toArray, List.set_cons_zero, List.set_cons_succ, h2] at hb
   clear h2
   subst hb
   rw [if_pos (by rfl)]
   go_wp2_with fail
   exact hK.out _ _ ⟨_, rfl, hS, rfl, AllP.same _⟩
  refine RelySteps.cons (RelyStep.mk [5] [6] rfl rfl rfl (fun xv wS hS hV bq hb K hK => ?_)) ?_
  ·obtain ⟨h5, _⟩ := hV
   have h5 : xv 5 = _ := h5
   simp only [putsOf, List.foldl_cons, List.foldl_nil, List.getD_cons_zero, List.getD_cons_succ, List.getD_nil, cond_true, cond_false, Act.put, List.setIfInBounds_toArray, List.set_cons_zero, List.set_cons_succ, h5] at hb
   clear h5
   subst hb
   rw [if_pos (by rfl)]
   go_wp2_with fail
   exact hK.out _ _ ⟨_, rfl, hS, rfl, AllP.same _⟩
  exact RelySteps.nil
 case rE =>
 intro xv wE hS hV
 have h6 := hV 6 (by decide) (by decide)
 have h7 := hV 7 (by decide) (by decide)
 clear hV
 simp only [putsOf, List.foldl_cons, List.foldl_nil, List.getD_cons_zero, List.getD_cons_succ, List.getD_nil, cond_true, cond_false, Act.put, List.setIfInBounds_toArray, List.set_cons_zero, List.set_cons_succ]
 have h6 : xv 6 = _ := h6
 have h7 : xv 7 = _ := h7
 rw [h6]; clear h6
 rw [h7]; clear h7
 generalize xv 0 = y0 at *
 generalize xv 1 = y1 at *
 generalize xv 2 = y2 at *
 generalize xv 3 = y3 at *
 generalize xv 4 = y4 at *
 generalize xv 5 = y5 at *
 have HB9 := Lib.hid (HB8.out.trans (hS.mono HB8.out.size))
 have HL9 := Lib.hid (HL8.out.later hS)
 have LC9 := Lib.hid (LC8.out.below hS LC8.out.lt)
 have LN9 := Lib.hid (LN8.out.below hS LN8.out.lt)
 have LA9 := Lib.hid (LA8.out.below hS LA8.out.lt)
 clear hS HAL HAN HEC HB8 HL8 LC8 LN8 LA8
 generalize wE = w9 at *
 have q0 := (LC9.out.cell 0).trans (show _ = some (Value.int .i64 0) from rfl)
 have q1 := (LC9.out.cell 1).trans (show _ = some (Value.int .i64 1) from rfl)
 have q2 := (LC9.out.cell 2).trans (show _ = some (Value.int .i64 0) from rfl)
 have q3 := (LC9.out.cell 3).trans (show _ = some (Value.int .u64 0) from rfl)
 have q4 := (LC9.out.cell 4).trans (show _ = some (Value.int .u64 0) from rfl)
 have q5 := LC9.out.lt
 have HDO := Lib.hid (lwDo (e := eC) (evOk17 (by simp)) (by decide) HL9.out)
 rw [ca3.1] at HDO
 go_wp2_with fail
 refine HDO.out.mono ?_
 rintro e w10 ⟨rfl, hk10, z10, hl10⟩
 have HK10 := Lib.hid hk10
 have HL10 : Hid (LwAt w.heap.size F w2.heap.size w2.heap.size fa1 1 z10 w10) := hl10
 have HB10 := Lib.hid (HB9.out.trans (HK10.out.below HB9.out.size))
 have LC10 := Lib.hid (HK10.out.lies LC9.out (by decide))
 have LN10 := Lib.hid (HK10.out.lies LN9.out (by decide))
 have LA10 := Lib.hid (HK10.out.lies LA9.out (by decide))
 clear hk10 hl10 HDO HB9 HL9 LC9 LN9 LA9 HK10
 clear q0 q1 q2 q3 q4 q5
 have q0 := (LC10.out.cell 0).trans (show _ = some (Value.int .i64 0) from rfl)
 have q1 := (LC10.out.cell 1).trans (show _ = some (Value.int .i64 1) from rfl)
 have q2 := (LC10.out.cell 2).trans (show _ = some (Value.int .i64 0) from rfl)
 have q3 := (LC10.out.cell 3).trans (show _ = some (Value.int .u64 0) from rfl)
 have q4 := (LC10.out.cell 4).trans (show _ = some (Value.int .u64 0) from rfl)
 have q5 := LC10.out.lt
 have HDO := Lib.hid (lwDo (e := eC) (evOk17 (by simp)) (by decide) HL10.out)
 rw [ca3.2.1] at HDO
 go_wp2_with fail
 refine HDO.out.mono ?_
 rintro e w11 ⟨rfl, hk11, z11, hl11⟩
 have HK11 := Lib.hid hk11
 have HL11 : Hid (LwAt w.heap.size F w2.heap.size w2.heap.size fa2 2 z11 w11) := hl11
 have HB11 := Lib.hid (HB10.out.trans (HK11.out.below HB10.out.size))
 have LC11 := Lib.hid (HK11.out.lies LC10.out (by decide))
 have LN11 := Lib.hid (HK11.out.lies LN10.out (by decide))
 have LA11 := Lib.hid (HK11.out.lies LA10.out (by decide))
 clear hk11 hl11 HDO HB10 HL10 LC10 LN10 LA10 HK11
 clear q0 q1 q2 q3 q4 q5
 have HDO := Lib.hid (lwDo (e := eP) (evOk17 (by simp)) (by decide) HL11.out)
 rw [ca3.2.2.1] at HDO
 go_wp2_with fail
 refine HDO.out.mono ?_
 rintro e w12 ⟨rfl, hk12, z12, hl12⟩
 have HK12 := Lib.hid hk12
 have HL12 : Hid (LwAt w.heap.size F w2.heap.size w2.heap.size fa3 3 z12 w12) := hl12
 have HB12 := Lib.hid (HB11.out.trans (HK12.out.below HB11.out.size))
 have LC12 := Lib.hid (HK12.out.lies LC11.out (by decide))
 have LN12 := Lib.hid (HK12.out.lies LN11.out (by decide))
 have LA12 := Lib.hid (HK12.out.lies LA11.out (by decide))
 clear hk12 hl12 HDO HB11 HL11 LC11 LN11 LA11 HK12
 have q0 := (LN12.out.cell 0).trans (show _ = some (Value.int .i64 0) from rfl)
 have q1 := (LN12.out.cell 1).trans (show _ = some (Value.int .i64 5) from rfl)
 have q2 := (LN12.out.cell 2).trans (show _ = some (Value.int .i64 0) from rfl)
 have q3 := (LN12.out.cell 3).trans (show _ = some (Value.int .u64 0) from rfl)
 have q4 := (LN12.out.cell 4).trans (show _ = some (Value.int .u64 0) from rfl)
 have q5 := LN12.out.lt
 have HDO := Lib.hid (lwDo (e := eN) (evOk17 (by simp)) (by decide) HL12.out)
 rw [ca3.2.2.2] at HDO
 go_wp2_with fail
 refine HDO.out.mono ?_
 rintro e w13 ⟨rfl, hk13, z13, hl13⟩
 have HK13 := Lib.hid hk13
 have HL13 : Hid (LwAt w.heap.size F w2.heap.size w2.heap.size fa4 4 z13 w13) := hl13
 have HB13 := Lib.hid (HB12.out.trans (HK13.out.below HB12.out.size))
 have LC13 := Lib.hid (HK13.out.lies LC12.out (by decide))
 have LN13 := Lib.hid (HK13.out.lies LN12.out (by decide))
 have LA13 := Lib.hid (HK13.out.lies LA12.out (by decide))
 clear hk13 hl13 HDO HB12 HL12 LC12 LN12 LA12 HK13
 clear q0 q1 q2 q3 q4 q5
 have hR13 := HL13.out.reset
 have HST := Lib.hid (fbState HL13.out.fab HL13.out.good.ok (fun t => by have := sn_le HL13.out.good.sn t; omega) (by rw [ca7.2.2]; decide) (by rw [ca7.2.2]; decide))
 have HR13 := Lib.hid hR13
 have HLD := Lib.hid (ld4 HL13.out.good.ok)
 have HS1 : Hid ((stF fa4).th.length = 1 ∧ (stF fa4).rg.length = 1) := ⟨ca7.1, ca7.2.1⟩
 have HS2 : Hid (∃ x r, (stF fa4).th[0]? = some x ∧ x.r 2 = 1 ∧ (stF fa4).rg[0]? = some r ∧ r.tl = 1) := ⟨_, _, th_first fa4 (by rw [ca7.2.2]; decide), ca6.1, rg_first fa4 (by rw [ca7.2.2]; decide), ca6.2.1⟩
 clear hR13 HL13
 generalize stF fa4 = S at *
 go_wp2_with fail
 refine HST.out.mono ?_
 rintro e w14 ⟨At, ct, Ar, cr, rfl, hts, hrs, hb14⟩
 rw [HS1.out.1] at hts ⊢
 rw [HS1.out.2] at hrs ⊢
 have HTS := Lib.hid hts
 have HRS := Lib.hid hrs
 have HL14 : Hid (LwAt w.heap.size F w13.heap.size w14.heap.size fa4 4 z13 w14) := HR13.out.grow hb14
 have HB14 := Lib.hid (HB13.out.trans (hb14.mono HB13.out.size))
 have LA14 := Lib.hid (LA13.out.below hb14 LA13.out.lt)
 have H13 := Lib.hid hb14.size
 clear hb14 hts hrs HST HR13 HB13 LA13 LC13 LN13
 have hb15 : Below w14.heap.size w14 (w14.alloc (.cells (stC (.slice At 1 ct) (.slice Ar 1 cr) S.now S.rds S.en) 39)) := (Below.refl _ _).alloc (Nat.le_refl _) _
 have LS15 := Lib.hid (Lies.made w14 39 (stC (.slice At 1 ct) (.slice Ar 1 cr) S.now S.rds S.en))
 have HL15 := Lib.hid (HL14.out.later hb15)
 have HB15 := Lib.hid (HB14.out.trans (hb15.mono HB14.out.size))
 have LA15 := Lib.hid (LA14.out.below hb15 LA14.out.lt)
 have HTS15 := Lib.hid (ownTs_kept HTS.out (Kept.of_below hb15) (fun _ _ _ _ _ e => e))
 have HRS15 := Lib.hid (ownRs_kept HRS.out (Kept.of_below hb15) (fun _ _ _ _ _ e => e))
 have H14 : Hid (∀ r, (Value.slice At 1 ct).ownBlock = some r → w13.heap.size ≤ r ∧ r < w14.heap.size) := fun r e => by obtain ⟨ps, _, h2, _⟩ := HTS.out; exact own_lt17 h2 e
 have H14R : Hid (∀ r, (Value.slice Ar 1 cr).ownBlock = some r → w13.heap.size ≤ r ∧ r < w14.heap.size) := fun r e => by obtain ⟨ps, _, h2, _⟩ := HRS.out; exact own_lt17 h2 e
 clear hb15 HL14 HB14 LA14 HTS HRS
 go_upto_region 14 with (fail)
 generalize hw15 : w14.alloc (.cells (stC (.slice At 1 ct) (.slice Ar 1 cr) S.now S.rds S.en) 39) = w15 at *
 clear hw15
 generalize hn : w14.heap.size = NS at *
 have HSM := Lib.hid (fun (q : World) => smp17 q)
 have HLO : Hid (∀ q, Below w15.heap.size w15 q → ∀ A Q, PgAt q A 1 Q 1 smP → Calls Tryz.prog 28 #[.agg (pgC A 1 Q 1 smP), .agg (stC (.slice At 1 ct) (.slice Ar 1 cr) S.now S.rds S.en)] q fun e w' => ∃ F, e = .returned (.tuple #[.pointer (some ⟨F, 0, none⟩), .int .i64 0]) ∧ Below q.heap.size q w') := fun q hq A Q hp => by
  refine (fbLoad smP S A 1 Q 1 At ct Ar cr w13.heap.size q hp HLD.out (ownTs_kept HTS15.out (Kept.of_below hq) (fun _ _ _ _ _ e => e)) (ownRs_kept HRS15.out (Kept.of_below hq) (fun _ _ _ _ _ e => e))).mono ?_
  rintro e w' ⟨F, z, h1, _, _, h2⟩
  exact ⟨F, h1, h2⟩
 have HSB := Lib.hid (fun (q : World) (hq : Below w15.heap.size w15 q) => LS15.out.below hq LS15.out.lt)
 refine wp_region_rely (fun q => Below w15.heap.size w15 q) (bfV [.of (fun u q => ∃ A Q, u = .agg (pgC A 1 Q 1 smP) ∧ PgAt q A 1 Q 1 smP) (fun _ _ _ hb ⟨_, _, e, h⟩ => ⟨_, _, e, h.later hb⟩), .eq (.agg (stC (.slice At 1 ct) (.slice Ar 1 cr) S.now S.rds S.en)), .of (fun u q => ∃ F2 : Nat, u = .tuple #[.pointer (some ⟨F2, 0, none⟩), .int .i64 0]) (fun _ _ _ _ h => h), .of (fun u q => ∃ F2 : Nat, u = .tuple #[.pointer (some ⟨F2, 0, none⟩), .int .i64 0]) (fun _ _ _ _ h => h), .of (fun u q => ∃ F2 : Nat, u = .pointer (some ⟨F2, 0, none⟩)) (fun _ _ _ _ h => h), .eq (.int .i64 0), .of (fun u q => ∃ F2 : Nat, u = .pointer (some ⟨F2, 0, none⟩)) (fun _ _ _ _ h => h), .eq (.int .i64 0)]) [some 67, some 68, some 69, some 66, some 70, some 71, some 18, some 19] [[], [], [0, 1], [2], [3], [3], [4], [5]] [[], [], [0, 1], [0, 1, 2], [2], [2], [0, 1, 2, 4], [0, 1, 2, 3, 4, 5]] [[1, 3, 4, 5], [0, 3, 4, 5], [4, 5], [], [3, 5], [3, 4, 6], [3, 5], [6]] [0, 1, 2, 3, 4, 5, 6, 7] 8 (by kernel_rfl) (by kernel_rfl) (by kernel_rfl) (by kernel_rfl) ?rS (fun j h1 h2 => absurd (Nat.lt_of_lt_of_le h1 (Nat.le_trans (by decide) h2)) (Nat.lt_irrefl _)) ?rT ?rE
 case rS => exact below_drewN (Below.refl _ _) 1
 case rT =>
  refine RelySteps.cons (RelyStep.mk [] [1, 3, 4, 5] rfl rfl rfl (fun xv wS hS hV bq hb K hK => ?_)) ?_
  ·clear hV
   simp only [putsOf, List.foldl_cons, List.foldl_nil, List.getD_cons_zero, List.getD_cons_succ, List.getD_nil, cond_true, cond_false, Act.put, List.setIfInBounds_toArray, List.set_cons_zero, List.set_cons_succ] at hb
   subst hb
   rw [if_pos (by rfl)]
   have HSS := Lib.hid hS
   clear hS
   go_wp2_with fail
   refine (HSM.out wS).mono ?_
   rintro e w5 ⟨A, Q, rfl, hp, hb5⟩
   exact hK.out _ _ ⟨_, rfl, then_ HSS.out hb5, ⟨_, _, rfl, hp⟩, AllP.of _ (fun j _ _ h => bfV_below hb5 h)⟩
  refine RelySteps.cons (RelyStep.mk [] [0, 3, 4, 5] rfl rfl rfl (fun xv wS hS hV bq hb K hK => ?_)) ?_
  ·clear hV
   simp only [putsOf, List.foldl_cons, List.foldl_nil, List.getD_cons_zero, List.getD_cons_succ, List.getD_nil, cond_true, cond_false, Act.put, List.setIfInBounds_toArray, List.set_cons_zero, List.set_cons_succ] at hb
   subst hb
   rw [if_pos (by rfl)]
   (have l5 := HSB.out _ hS; have q0 := (l5.cell 0).trans (show _ = some (Value.slice At 1 ct) from rfl); have q1 := (l5.cell 1).trans (show _ = some (Value.slice Ar 1 cr) from rfl); have q2 := (l5.cell 2).trans (show _ = some (Value.int .u64 (S.now : Int)) from rfl); have q3 := (l5.cell 3).trans (show _ = some (Value.int .u64 (S.rds : Int)) from rfl); have q4 := (l5.cell 4).trans (show _ = some (Value.bool S.en) from rfl); have q5 := l5.lt; clear l5)
   go_wp2_with fail
   exact hK.out _ _ ⟨_, rfl, hS, rfl, AllP.same _⟩
  refine RelySteps.cons (RelyStep.mk [0, 1] [4, 5] rfl rfl rfl (fun xv wS hS hV bq hb K hK => ?_)) ?_
  ·obtain ⟨h0, h1, _⟩ := hV
   have h1 : xv 1 = _ := h1
   simp only [putsOf, List.foldl_cons, List.foldl_nil, List.getD_cons_zero, List.getD_cons_succ, List.getD_nil, cond_true, cond_false, Act.put, List.setIfInBounds_toArray, List.set_cons_zero, List.set_cons_succ, h1] at hb
   generalize xv 0 = y0 at *
   clear h1
   subst hb
   rw [if_pos (by rfl)]
   have HSS := Lib.hid hS
   obtain ⟨A, Q, rfl, hp⟩ := h0
   have HPP := Lib.hid hp
   clear hS hp
   go_wp2_with fail
   refine (HLO.out wS HSS.out A Q HPP.out).mono ?_
   rintro e w5 ⟨F2, rfl, hb5⟩
   exact hK.out _ _ ⟨_, rfl, then_ HSS.out hb5, ⟨_, rfl⟩, AllP.of _ (fun j _ _ h => bfV_below hb5 h)⟩
  refine RelySteps.cons (RelyStep.mk [2] [] rfl rfl rfl (fun xv wS hS hV bq hb K hK => ?_)) ?_
  ·obtain ⟨h2, _⟩ := hV
   simp only [putsOf, List.foldl_cons, List.foldl_nil, List.getD_cons_zero, List.getD_cons_succ, List.getD_nil, cond_true, cond_false, Act.put, List.setIfInBounds_toArray, List.set_cons_zero, List.set_cons_succ] at hb
   generalize xv 2 = y2 at *
   subst hb
   rw [if_pos (by rfl)]
   have HSS := Lib.hid hS
   obtain ⟨F2, rfl⟩ := h2
   clear hS
   go_wp2_with fail
   exact hK.out _ _ ⟨_, rfl, HSS.out, ⟨_, rfl⟩, AllP.same _⟩
  refine RelySteps.cons (RelyStep.mk [3] [3, 5] rfl rfl rfl (fun xv wS hS hV bq hb K hK => ?_)) ?_
  ·obtain ⟨h3, _⟩ := hV
   simp only [putsOf, List.foldl_cons, List.foldl_nil, List.getD_cons_zero, List.getD_cons_succ, List.getD_nil, cond_true, cond_false, Act.put, List.setIfInBounds_toArray, List.set_cons_zero, List.set_cons_succ] at hb
   generalize xv 3 = y3 at *
   subst hb
   rw [if_pos (by rfl)]
   have HSS := Lib.hid hS
   obtain ⟨F2, rfl⟩ := h3
   clear hS
   go_wp2_with fail
   exact hK.out _ _ ⟨_, rfl, HSS.out, ⟨_, rfl⟩, AllP.same _⟩
  refine RelySteps.cons (RelyStep.mk [3] [3, 4, 6] rfl rfl rfl (fun xv wS hS hV bq hb K hK => ?_)) ?_
  ·obtain ⟨h3, _⟩ := hV
   simp only [putsOf, List.foldl_cons, List.foldl_nil, List.getD_cons_zero, List.getD_cons_succ, List.getD_nil, cond_true, cond_false, Act.put, List.setIfInBounds_toArray, List.set_cons_zero, List.set_cons_succ] at hb
   generalize xv 3 = y3 at *
   subst hb
   rw [if_pos (by rfl)]
   have HSS := Lib.hid hS
   obtain ⟨F2, rfl⟩ := h3
   clear hS
   go_wp2_with fail
   exact hK.out _ _ ⟨_, rfl, HSS.out, rfl, AllP.same _⟩
  refine RelySteps.cons (RelyStep.mk [4] [3, 5] rfl rfl rfl (fun xv wS hS hV bq hb K hK => ?_)) ?_
  ·obtain ⟨h4, _⟩ := hV
   simp only [putsOf, List.foldl_cons, List.foldl_nil, List.getD_cons_zero, List.getD_cons_succ, List.getD_nil, cond_true, cond_false, Act.put, List.setIfInBounds_toArray, List.set_cons_zero, List.set_cons_succ] at hb
   generalize xv 4 = y4 at *
   subst hb
   rw [if_pos (by rfl)]
   have HSS := Lib.hid hS
   obtain ⟨F2, rfl⟩ := h4
   clear hS
   go_wp2_with fail
   exact hK.out _ _ ⟨_, rfl, HSS.out, ⟨_, rfl⟩, AllP.same _⟩
  refine RelySteps.cons (RelyStep.mk [5] [6] rfl rfl rfl (fun xv wS hS hV bq hb K hK => ?_)) ?_
  ·obtain ⟨h5, _⟩ := hV
   have h5 : xv 5 = _ := h5
   simp only [putsOf, List.foldl_cons, List.foldl_nil, List.getD_cons_zero, List.getD_cons_succ, List.getD_nil, cond_true, cond_false, Act.put, List.setIfInBounds_toArray, List.set_cons_zero, List.set_cons_succ, h5] at hb
   clear h5
   subst hb
   rw [if_pos (by rfl)]
   go_wp2_with fail
   exact hK.out _ _ ⟨_, rfl, hS, rfl, AllP.same _⟩
  exact RelySteps.nil
 case rE =>
 intro xv wE hS hV
 have h6 := hV 6 (by decide) (by decide)
 have h7 := hV 7 (by decide) (by decide)
 clear hV
 simp only [putsOf, List.foldl_cons, List.foldl_nil, List.getD_cons_zero, List.getD_cons_succ, List.getD_nil, cond_true, cond_false, Act.put, List.setIfInBounds_toArray, List.set_cons_zero, List.set_cons_succ]
 have h7 : xv 7 = _ := h7
 rw [h7]; clear h7
 generalize xv 0 = y0 at *
 generalize xv 1 = y1 at *
 generalize xv 2 = y2 at *
 generalize xv 3 = y3 at *
 generalize xv 4 = y4 at *
 generalize xv 5 = y5 at *
 generalize xv 6 = y6 at *
 obtain ⟨F2, rfl⟩ := h6
 have HB16 := Lib.hid (HB15.out.trans (hS.mono HB15.out.size))
 have HL16 := Lib.hid (HL15.out.later hS)
 have LA16 := Lib.hid (LA15.out.below hS LA15.out.lt)
 have LS16 := Lib.hid (LS15.out.below hS LS15.out.lt)
 have HTS16 := Lib.hid (ownTs_kept HTS15.out (Kept.of_below hS) (fun _ _ _ _ _ e => e))
 have HRS16 := Lib.hid (ownRs_kept HRS15.out (Kept.of_below hS) (fun _ _ _ _ _ e => e))
 clear hS HSM HLO HSB HB15 HL15 LA15 LS15 HTS15 HRS15 HLD
 generalize wE = w16 at *
 obtain ⟨x0, r0, hx0, hx1, hr0, hr1⟩ := HS2.out
 obtain ⟨T, c9, A9, d9, e9, _, _, hT9, hTC⟩ := ownTs_at HTS16.out hx0
 obtain ⟨R, c8, A8, d8, A7, d7, e8, _, _, hR8, hRC⟩ := ownRs_at HRS16.out hr0
 rw [HS1.out.1] at e9
 rw [HS1.out.2] at e8
 simp only [Value.slice.injEq, true_and] at e9 e8
 obtain ⟨rfl, rfl⟩ := e9
 obtain ⟨rfl, rfl⟩ := e8
 have t7 := (hTC w16 (Below.refl _ _)).1 7 _ rfl
 have r7 := (hRC w16 (Below.refl _ _)).1 0 _ rfl
 rw [hx1] at t7
 rw [hr1] at r7
 obtain ⟨curT, lT⟩ : ∃ cur, Lies w16 T 73 cur := by obtain ⟨ps, _, h2, _⟩ := HTS16.out; exact (own_lies h2 rfl).2
 obtain ⟨curR, lR⟩ : ∃ cur, Lies w16 R 76 cur := by obtain ⟨ps, _, h2, _⟩ := HRS16.out; exact (own_lies h2 rfl).2
 rw [Nat.zero_mul, Nat.zero_add, lT.cell] at t7
 rw [Nat.zero_mul, Nat.zero_add, lR.cell] at r7
 have HT16 := Lib.hid lT
 have HR16 := Lib.hid lR
 have HTR : Hid (curT[7]? = some (.int .u64 1) ∧ curR[0]? = some (.int .u64 1) ∧ (w13.heap.size ≤ T ∧ T < NS) ∧ (w13.heap.size ≤ R ∧ R < NS)) := ⟨t7, r7, H14.out T rfl, H14R.out R rfl⟩
 obtain ⟨ct1, cr1⟩ : 1 ≤ ct ∧ ct ≤ 9223372036854775807 := by obtain ⟨ps, _, h2, _⟩ := HTS16.out; obtain ⟨A5, c5, e5, g1, g2⟩ := owns_form h2; simp only [Value.slice.injEq] at e5; have := HS1.out.1; omega
 obtain ⟨ct2, cr2⟩ : 1 ≤ cr ∧ cr ≤ 9223372036854775807 := by obtain ⟨ps, _, h2, _⟩ := HRS16.out; obtain ⟨A5, c5, e5, g1, g2⟩ := owns_form h2; simp only [Value.slice.injEq] at e5; have := HS1.out.2; omega
 clear hx0 hx1 hr0 hr1 hT9 hTC hR8 hRC t7 r7 lT lR HTS16 HRS16 HS2 HS1 H14 H14R
 have HDO := Lib.hid (lwFeed (e := eC1) (evOk17 (by simp)) (by decide) HL16.out)
 rw [ca4.1] at HDO
 go_wp2_with fail
 refine HDO.out.mono ?_
 rintro e w17 ⟨rfl, hk17, z17, hl17⟩
 have HK17 := Lib.hid hk17
 have HL17 : Hid (LwAt w.heap.size F w13.heap.size NS fa5 5 z17 w17) := hl17
 have HB17 := Lib.hid (HB16.out.trans (HK17.out.below HB16.out.size))
 have LA17 := Lib.hid (HK17.out.lies LA16.out (by decide))
 have LS17 := Lib.hid (HK17.out.lies LS16.out (by decide))
 have HT17 := Lib.hid (HK17.out.mid HT16.out HTR.out.2.2.1.1 HTR.out.2.2.1.2)
 have HR17 := Lib.hid (HK17.out.mid HR16.out HTR.out.2.2.2.1 HTR.out.2.2.2.2)
 clear hk17 hl17 HDO HB16 HL16 LA16 LS16 HT16 HR16 HK17
 have HDO := Lib.hid (lwFeed (e := eS) (evOk17 (by simp)) (by decide) HL17.out)
 rw [ca4.2] at HDO
 go_wp2_with fail
 refine HDO.out.mono ?_
 rintro e w18 ⟨rfl, hk18, z18, hl18⟩
 have HK18 := Lib.hid hk18
 have HL18 : Hid (LwAt w.heap.size F w13.heap.size NS fa6 6 z18 w18) := hl18
 have HB18 := Lib.hid (HB17.out.trans (HK18.out.below HB17.out.size))
 have LA18 := Lib.hid (HK18.out.lies LA17.out (by decide))
 have LS18 := Lib.hid (HK18.out.lies LS17.out (by decide))
 have HT18 := Lib.hid (HK18.out.mid HT17.out HTR.out.2.2.1.1 HTR.out.2.2.1.2)
 have HR18 := Lib.hid (HK18.out.mid HR17.out HTR.out.2.2.2.1 HTR.out.2.2.2.2)
 clear hk18 hl18 HDO HB17 HL17 LA17 LS17 HT17 HR17 HK18
 have a0 := (LA18.out.cell 0).trans (show _ = some (Value.int .i64 ax.kd) from rfl)
 have a5 := (LA18.out.cell 5).trans (show _ = some (Value.int .u64 (ax.vl : Int)) from rfl)
 rw [KA.out.1] at a0
 rw [KA.out.2] at a5
 have al := LA18.out.lt
 have s0 := (LS18.out.cell 0).trans (show _ = some (Value.slice (some ⟨T, 0, none⟩) 1 ct) from rfl)
 have s1 := (LS18.out.cell 1).trans (show _ = some (Value.slice (some ⟨R, 0, none⟩) 1 cr) from rfl)
 have sl := LS18.out.lt
 have t7 := (HT18.out.cell 7).trans HTR.out.1
 have r7 := (HR18.out.cell 0).trans HTR.out.2.1
 have tl := HT18.out.lt
 have rl := HR18.out.lt
 obtain ⟨g1, g2, g3, g4⟩ := ca5
 have HRU := Lib.hid (fbRuns 0 HL18.out.fab HL18.out.good.ok)
 have HOV := Lib.hid (fbOver HL18.out.fab HL18.out.good.ok)
 have HNO := Lib.hid (fbNow HL18.out.fab)
 have HSE := Lib.hid (fbSeenO 0 HL18.out.fab HL18.out.good.ok (fun t => by have := sn_le HL18.out.good.sn t; omega))
 rw [g1] at HRU
 rw [g2] at HOV
 rw [g3] at HNO
 rw [g4] at HSE
 clear g1 g2 g3 g4
 clear LA18 LS18 HT18 HR18 HTR HL18 KA
 go_wp2_with fail
 refine HRU.out.mono ?_
 rintro e w19 ⟨rfl, rfl⟩
 go_wp2_with fail
 refine HOV.out.mono ?_
 rintro e w19 ⟨rfl, rfl⟩
 go_wp2_with fail
 refine HNO.out.mono ?_
 rintro e w19 ⟨rfl, rfl⟩
 go_wp2_with fail
 refine HSE.out.mono ?_
 rintro e w19 ⟨v, rfl, ho, hb⟩
 obtain ⟨A5, c5, rfl, _⟩ := owns_form ho
 have HBE := Lib.hid (HB18.out.trans (hb.mono HB18.out.size))
 clear ho hb
 go_wp2_with fail
 go_ret
 exact ⟨rfl, HBE.out⟩
def vals (l : List Int) : List Value := l.map (Value.int .u64)
set_option maxHeartbeats 1000000 in
theorem refSame (v1 v2 : Value) (xs ys : List Int) (w : World) (h1 : SeqAt w v1 (vals xs)) (h2 : SeqAt w v2 (vals ys)) :
  Calls Tryz.prog 30 #[v1, v2] w fun e w' => e = .returned (.bool (decide (xs = ys))) ∧ ∃ n, w' = w.drewN n := by
 obtain ⟨A, c, rfl, a1, a2, a3⟩ := h1
 obtain ⟨B, d, rfl, b1, b2, b3⟩ := h2
 have e1 : (vals xs).length = xs.length := by simp [vals]
 have e2 : (vals ys).length = ys.length := by simp [vals]
 rw [e1, e2]
 have a1' : xs.length ≤ c := by rw [← e1]; exact a1
 have b1' : ys.length ≤ d := by rw [← e2]; exact b1
 clear a1 b1
 unfold maxLen at a2 b2
 have A3 := Lib.hid a3
 have B3 := Lib.hid b3
 clear a3 b3 e1 e2
 by_cases hl : xs.length = ys.length
 ·have q1 : (xs.length != ys.length) = false := by simp [hl]
  go_enter Tryz.func30, Tryz.ntmps30
  have HL := Lib.hid hl
  clear hl
  go_wp2
  go_loopw [5] (fun i wr => ∃ k n : Nat, k ≤ xs.length ∧ i = .int .i64 k ∧ wr = w.drewN n ∧ Hid (xs.take k = ys.take k)) (fun i _ => xs.length - (intOf i).toNat)
  case atStart => exact ⟨0, 0, by omega, rfl, rfl, by unfold Hid; simp⟩
  case round =>
   obtain ⟨k, n, hk, rfl, rfl, ht⟩ := hrel
   by_cases hlt : k < xs.length
   ·obtain ⟨x, hx⟩ : ∃ x, xs[k]? = some x := ⟨_, List.getElem?_eq_getElem hlt⟩
    obtain ⟨y, hy⟩ : ∃ y, ys[k]? = some y := ⟨_, List.getElem?_eq_getElem (by rw [← HL.out]; exact hlt)⟩
    obtain ⟨ba, oa, he, ca⟩ := A3.out k (.int .u64 x) (by simp [vals, hx])
    subst he
    obtain ⟨bb, ob, he, cb⟩ := B3.out k (.int .u64 y) (by simp [vals, hy])
    subst he
    have hk2 : (k : Int) < (xs.length : Int) := by omega
    have hk3 : (k : Int) < (ys.length : Int) := by rw [← HL.out]; exact hk2
    have HX := Lib.hid hx
    have HY := Lib.hid hy
    clear hx hy
    go_wp2_with fail
    go_quiet (fail)
    by_cases hxy : x = y
    ·subst hxy
     go_wp2
     go_roundw
     case rel => exact ⟨k + 1, _, by omega, by go_num, (by first | rfl | exact World.drewN_drewN _ _ _), by
      have e1 : xs.take (k + 1) = xs.take k ++ [x] := by rw [List.take_add_one, HX.out]; rfl
      have e2 : ys.take (k + 1) = ys.take k ++ [x] := by rw [List.take_add_one, HY.out]; rfl
      unfold Hid; rw [e1, e2, ht.out]⟩
     case measure => simp [intOf]; omega
    ·have q2 : (x != y) = true := by simpa using hxy
     go_wp2
     go_ret
     refine ⟨ret_bool ?_, _, by first | rfl | exact World.drewN_drewN _ _ _⟩
     have : xs ≠ ys := by
      intro h; subst h
      have h1 := HX.out; rw [HY.out] at h1; exact hxy (Option.some.inj h1).symm
     simp [this]
   ·obtain rfl : k = xs.length := by omega
    go_wp2
    go_ret
    refine ⟨ret_bool ?_, _, by first | rfl | exact World.drewN_drewN _ _ _⟩
    have h := ht.out
    rw [List.take_of_length_le (Nat.le_refl _), List.take_of_length_le (by rw [HL.out]; exact Nat.le_refl _)] at h
    simp [h]
 ·have q1 : (xs.length != ys.length) = true := by simpa using hl
  have HL := Lib.hid hl
  clear hl
  go_enter Tryz.func30, Tryz.ntmps30
  go_wp2
  go_ret
  refine ⟨ret_bool ?_, 0, rfl⟩
  have : xs ≠ ys := fun h => HL.out (by rw [h])
  simp [this]
theorem vals_nat (l : List Nat) : vals (l.map fun (n : Nat) => (n : Int)) = cells64 l := by simp [vals, cells64]
theorem refSameNat (v1 v2 : Value) (xs ys : List Nat) (w : World) (h1 : SeqAt w v1 (cells64 xs)) (h2 : SeqAt w v2 (cells64 ys)) :
  Calls Tryz.prog 30 #[v1, v2] w fun e w' => e = .returned (.bool (decide (xs = ys))) ∧ ∃ n, w' = w.drewN n := by
 have := refSame v1 v2 (xs.map fun (n : Nat) => (n : Int)) (ys.map fun (n : Nat) => (n : Int)) w (by rw [vals_nat]; exact h1) (by rw [vals_nat]; exact h2)
 have e : decide ((xs.map fun (n : Nat) => (n : Int)) = (ys.map fun (n : Nat) => (n : Int))) = decide (xs = ys) := by
  congr 1
  apply propext
  constructor
  ·intro h
   exact (List.map_inj_right (fun a b h => by omega)).1 h
  ·intro h; rw [h]
 rw [e] at this
 exact this
section
variable {P : Program} {W : World} {H : Type} {enc : TypeId × Value → H}
theorem trod_slice_cell {t e : TypeId} {n : Nat} {cs : List Value} {y : DataW H × List MemPlace} (ht : P.underlying t = some (.slice e)) (h : DataW.trod enc P W 0 (fun _ => true) true n t cs = some y) :
  ∃ A len cap, cs = [.slice A len cap] ∧ DataW.Trod enc P W 0 (fun _ => true) true t (.slice A len cap) y.1 y.2 := by
 rcases Deep.open_slice ht h with ⟨hcs, _⟩ | ⟨a, len, cap, m, n, D, Pl, hcs, _⟩
 ·subst hcs; exact ⟨none, 0, 0, rfl, n, h⟩
 ·subst hcs; exact ⟨some a, len, cap, rfl, _, h⟩
end
theorem list6v {l : List Value} (h : l.length = 6) : ∃ a b c d e f, l = [a, b, c, d, e, f] := by
 match l, h with
 | [a, b, c, d, e, f], _ => exact ⟨a, b, c, d, e, f, rfl⟩
theorem list3v {l : List Value} (h : l.length = 3) : ∃ a b c, l = [a, b, c] := by
 match l, h with
 | [a, b, c], _ => exact ⟨a, b, c, rfl⟩
section
variable {W : World} {H : Type} {enc : TypeId × Value → H}
set_option maxRecDepth 100000 in
theorem in_open {n : Nat} {cs : List Value} {y : DataW H × List MemPlace} (hl : cs.length = 6) (h : DataW.trod enc Tryz.prog W 0 (fun _ => true) true n 122 cs = some y) : ∃ x : In, cs = inF x ∧ inOk x := by
 obtain ⟨z0, g0, b0⟩ := int_field (i := 0) (k := .i64) Tryz.underlying122 h rfl ⟨Tryz.underlying3, rfl, by kernel_rfl⟩
 obtain ⟨z1, g1, b1⟩ := int_field (i := 1) (k := .i64) Tryz.underlying122 h rfl ⟨Tryz.underlying3, rfl, by kernel_rfl⟩
 obtain ⟨z2, g2, b2⟩ := int_field (i := 2) (k := .i64) Tryz.underlying122 h rfl ⟨Tryz.underlying3, rfl, by kernel_rfl⟩
 obtain ⟨z3, g3, b3⟩ := int_field (i := 3) (k := .i64) Tryz.underlying122 h rfl ⟨Tryz.underlying3, rfl, by kernel_rfl⟩
 obtain ⟨z4, g4, b4⟩ := int_field (i := 4) (k := .i64) Tryz.underlying122 h rfl ⟨Tryz.underlying3, rfl, by kernel_rfl⟩
 obtain ⟨z5, g5, b5⟩ := int_field (i := 5) (k := .u64) Tryz.underlying122 h rfl ⟨Tryz.underlying37, rfl, by kernel_rfl⟩
 have c5 := Go.bounds_u64 b5
 obtain ⟨x0, x1, x2, x3, x4, x5, rfl⟩ := list6v hl
 simp at g0 g1 g2 g3 g4 g5
 subst g0 g1 g2 g3 g4 g5
 refine ⟨⟨z0, z1, z2, z3, z4, z5.toNat⟩, ?_, Go.bounds_i64 b0, Go.bounds_i64 b1, Go.bounds_i64 b2, Go.bounds_i64 b3, Go.bounds_i64 b4, ?_⟩
 ·unfold inF; simp only
  rw [show ((z5.toNat : Nat) : Int) = z5 by omega]
 ·simp only; omega
set_option maxRecDepth 100000 in
theorem ri_open {n : Nat} {cs : List Value} {y : DataW H × List MemPlace} (hl : cs.length = 3) (h : DataW.trod enc Tryz.prog W 0 (fun _ => true) true n 84 cs = some y) : ∃ x : Ri, cs = riF x ∧ riOk x := by
 obtain ⟨z0, g0, b0⟩ := int_field (i := 0) (k := .i64) Tryz.underlying84 h rfl ⟨Tryz.underlying3, rfl, by kernel_rfl⟩
 obtain ⟨z1, g1, b1⟩ := int_field (i := 1) (k := .i64) Tryz.underlying84 h rfl ⟨Tryz.underlying3, rfl, by kernel_rfl⟩
 obtain ⟨z2, g2, b2⟩ := int_field (i := 2) (k := .i64) Tryz.underlying84 h rfl ⟨Tryz.underlying3, rfl, by kernel_rfl⟩
 obtain ⟨x0, x1, x2, rfl⟩ := list3v hl
 simp at g0 g1 g2
 subst g0 g1 g2
 exact ⟨⟨z0, z1, z2⟩, rfl, Go.bounds_i64 b0, Go.bounds_i64 b1, Go.bounds_i64 b2⟩
theorem ins_open {a : Option Addr} {len cap : Nat} {d : DataW H} {p : List MemPlace} (h : DataW.Trod enc Tryz.prog W 0 (fun _ => true) true 78 (.slice a len cap) d p) : ∃ l : List In, l.length = len ∧ InsAt W a cap l ∧ ∀ x ∈ l, inOk x := by
 obtain ⟨l, _, h1, h2, h3⟩ := argOf (f := inF) (sz := 6) (ok := inOk) Tryz.underlying78 (by kernel_rfl) (by omega) (fun n cs y hl h => in_open hl h) h
 subst h1
 exact ⟨l, rfl, h2, h3⟩
theorem ris_open {a : Option Addr} {len cap : Nat} {d : DataW H} {p : List MemPlace} (h : DataW.Trod enc Tryz.prog W 0 (fun _ => true) true 22 (.slice a len cap) d p) : ∃ l : List Ri, l.length = len ∧ RisAt W a cap l ∧ ∀ x ∈ l, riOk x := by
 obtain ⟨l, _, h1, h2, h3⟩ := argOf (f := riF) (sz := 3) (ok := riOk) Tryz.underlying22 (by kernel_rfl) (by omega) (fun n cs y hl h => ri_open hl h) h
 subst h1
 exact ⟨l, rfl, h2, h3⟩
theorem ths_open {a : Option Addr} {len cap : Nat} {d : DataW H} {p : List MemPlace} (h : DataW.Trod enc Tryz.prog W 0 (fun _ => true) true 23 (.slice a len cap) d p) :
  ∃ ts : List (List In), ts.length = len ∧ ThsAt W a cap ts ∧ ∀ l ∈ ts, ∀ x ∈ l, inOk x := by
 obtain ⟨_, rows, hr, hs⟩ := argRows (sz := 1) Tryz.underlying23 (by kernel_rfl) (by omega) h
 obtain ⟨T, hT⟩ := Deep.choose_lt (α := Option Addr × Nat × List In) (n := len) (p := fun i q => rows i = [.slice q.1 q.2.2.length q.2.1] ∧ InsAt W q.1 q.2.1 q.2.2 ∧ ∀ x ∈ q.2.2, inOk x) (fun i hi => by
  obtain ⟨_, n, y, hy⟩ := hr i hi
  obtain ⟨A, l, c, e, ht⟩ := trod_slice_cell Tryz.underlying78 hy
  obtain ⟨q, h1, h2, h3⟩ := ins_open ht
  subst h1
  exact ⟨(A, c, q), e, h2, h3⟩)
 refine ⟨(List.range len).map (fun i => (T i).2.2), by simp, ⟨(List.range len).flatMap rows, ?_, fun i l hl => ?_⟩, fun l hl x hx => ?_⟩
 ·simp only [List.length_map, List.length_range]; exact hs
 ·rw [List.getElem?_map] at hl
  obtain ⟨j, hj, rfl⟩ := Option.map_eq_some_iff.1 hl
  have hi : i < len := by
   have := (List.getElem?_eq_some_iff.1 hj).1
   simpa using this
  rw [List.getElem?_range hi] at hj
  injection hj with hj
  subst hj
  obtain ⟨e, h2, h3⟩ := hT i hi
  refine ⟨(T i).1, (T i).2.1, ?_, h2⟩
  have := flat_get len (fun i hi => (hr i hi).1) i 0 hi (by omega)
  rw [Nat.mul_one, Nat.add_zero, e] at this
  exact this
 ·obtain ⟨i, hi, rfl⟩ := List.mem_map.1 hl
  exact (hT i (List.mem_range.1 hi)).2.2 x hx
structure Pa where
 A : Option Addr
 c : Nat
 B : Option Addr
 d : Nat
 p : Pg
def PaAt (W : World) (z : Pa) : Prop := PgAt W z.A z.c z.B z.d z.p ∧ pgOk z.p
set_option maxRecDepth 100000 in
theorem opened25 {base : Nat} {v : Value} {d : DataW H} {p : List MemPlace}
  (hok : Value.okWide Tryz.prog W .any base 25 v) (h : DataW.Trod enc Tryz.prog W 0 (fun _ => true) true 25 v d p) :
  ∃ z : Pa, v = .agg (pgC z.A z.c z.B z.d z.p) ∧ PaAt W z := by
 obtain ⟨cs, rfl, hl⟩ := WideShapes.okWide_struct Tryz.underlying25 hok
 obtain ⟨n, h⟩ := h
 obtain ⟨xs, m, _, _, hlx, hn, hx⟩ := DataW.trod_struct Tryz.underlying25 h
 have hl2 : cs.toList.length = 2 := by rw [Array.length_toList, hl]; kernel_rfl
 obtain ⟨x0, x1, hx01⟩ : ∃ x0 x1, cs.toList = [x0, x1] := by
  match cs.toList, hl2 with
  | [a, b], _ => exact ⟨a, b, rfl⟩
 have hcs : cs = #[x0, x1] := Array.toList_inj.1 hx01
 subst hcs
 have h0 := hx 0 _ rfl
 have h1 := hx 1 _ rfl
 have hx2 : xs.length = 2 := by rw [hn]; kernel_rfl
 rw [List.getElem?_eq_getElem (by omega)] at h0 h1
 obtain ⟨A, n1, c, e1, t1⟩ := trod_slice_cell Tryz.underlying22 h0
 obtain ⟨B, n2, d2, e2, t2⟩ := trod_slice_cell Tryz.underlying23 h1
 obtain ⟨rs, hr1, hr2, hr3⟩ := ris_open t1
 obtain ⟨ts, ht1, ht2, ht3⟩ := ths_open t2
 subst hr1 ht1
 have E1 : [x0] = [Value.slice A rs.length c] := e1
 have E2 : [x1] = [Value.slice B ts.length d2] := e2
 clear e1 e2 h0 h1 hx hlx h
 simp only [List.cons.injEq, and_true] at E1 E2
 subst E1
 subst E2
 exact ⟨⟨A, c, B, d2, ⟨rs, ts⟩⟩, rfl, ⟨hr2, ht2⟩, hr3, ht3⟩
end
theorem list5v {l : List Value} (h : l.length = 5) : ∃ a b c d e, l = [a, b, c, d, e] := by
 match l, h with
 | [a, b, c, d, e], _ => exact ⟨a, b, c, d, e, rfl⟩
section
variable {W : World} {H : Type} {enc : TypeId × Value → H}
set_option maxRecDepth 100000 in
theorem ev_open {n : Nat} {cs : List Value} {y : DataW H × List MemPlace} (hl : cs.length = 5) (h : DataW.trod enc Tryz.prog W 0 (fun _ => true) true n 43 cs = some y) : ∃ x : Ev, cs = evF x ∧ evOk x := by
 obtain ⟨z0, g0, b0⟩ := int_field (i := 0) (k := .i64) Tryz.underlying43 h rfl ⟨Tryz.underlying3, rfl, by kernel_rfl⟩
 obtain ⟨z1, g1, b1⟩ := int_field (i := 1) (k := .i64) Tryz.underlying43 h rfl ⟨Tryz.underlying3, rfl, by kernel_rfl⟩
 obtain ⟨z2, g2, b2⟩ := int_field (i := 2) (k := .i64) Tryz.underlying43 h rfl ⟨Tryz.underlying3, rfl, by kernel_rfl⟩
 obtain ⟨z3, g3, b3⟩ := int_field (i := 3) (k := .u64) Tryz.underlying43 h rfl ⟨Tryz.underlying37, rfl, by kernel_rfl⟩
 obtain ⟨z4, g4, b4⟩ := int_field (i := 4) (k := .u64) Tryz.underlying43 h rfl ⟨Tryz.underlying37, rfl, by kernel_rfl⟩
 have c3 := Go.bounds_u64 b3
 have c4 := Go.bounds_u64 b4
 obtain ⟨x0, x1, x2, x3, x4, rfl⟩ := list5v hl
 simp at g0 g1 g2 g3 g4
 subst g0 g1 g2 g3 g4
 refine ⟨⟨z0, z1, z2, z3.toNat, z4.toNat⟩, ?_, Go.bounds_i64 b0, Go.bounds_i64 b1, Go.bounds_i64 b2, ?_, ?_⟩
 ·unfold evF; simp only
  rw [show ((z3.toNat : Nat) : Int) = z3 by omega, show ((z4.toNat : Nat) : Int) = z4 by omega]
 ·simp only; omega
 ·simp only; omega
def EvArg (w : World) (a : Option Addr) (len cap : Nat) (l : List Ev) : Prop := l.length = len ∧ EvsAt w a cap l ∧ ∀ x ∈ l, evOk x
theorem opened26 {base : Nat} {a : Option Addr} {len cap : Nat} {d : DataW H} {p : List MemPlace}
  (_ : Value.okWide Tryz.prog W .any base 26 (.slice a len cap)) (h : DataW.Trod enc Tryz.prog W 0 (fun _ => true) true 26 (.slice a len cap) d p) : ∃ l : List Ev, EvArg W a len cap l := by
 obtain ⟨l, _, h1, h2, h3⟩ := argOf (f := evF) (sz := 5) (ok := evOk) Tryz.underlying26 (by kernel_rfl) (by omega) (fun n cs y hl h => ev_open hl h) h
 subst h1
 exact ⟨l, rfl, h2, h3⟩
end
end Go.Proofs.YtdffpbfebgcmaaaGreat
