import Derived.Test.YtakggmfpgopcgaaZz3
namespace Go.Proofs.Ytakggmfpgopcgaa
open Go.RowKit
set_option linter.unusedVariables false
set_option linter.unusedSimpArgs false
theorem still_loadM {P : Program} {o : Oper} {a : Act} {w : World} {next : Act → Prop} (ty : TypeId) (x : Operand) (ho : o.op = .load ty x) (b off : Nat) (hx : a.eval x = .pointer (some ⟨b, off, none⟩)) (v : Value)
  (hl : (loadVar ty ⟨b, off, none⟩).run P w = .ok v w) (hn : next (a.put o.dst v)) : o.still P a w next := by
 unfold Oper.still execOp
 simp only [ho, hx, Instr.loadAt, Instr.sureAddr, Sem.run_bind, Sem.run_pure, Result.andThen_ok, hl]
 exact ⟨rfl, hn⟩
structure Ld0S (w : World) (c0 c1 : Array Value) (F : Nat) (z : F0) (q : World) : Prop where
 bel : Below w.heap.size w q
 box : Lies q w.heap.size 47 c0
 sta : Lies q (w.heap.size + 1) 26 c1
 fab : F0At w.heap.size F z q
 hF : w.heap.size + 1 < F ∧ w.heap.size + 1 < z.T ∧ w.heap.size + 1 < z.S
theorem Ld0S.later {w q q' : World} {c0 c1 : Array Value} {F : Nat} {z : F0} (h : Ld0S w c0 c1 F z q) (k : Below q.heap.size q q') : Ld0S w c0 c1 F z q' :=
 ⟨h.bel.trans (k.mono h.bel.size), h.box.below k h.box.lt, h.sta.below k h.sta.lt, h.fab.later k, h.hF⟩
structure Ld1S (w : World) (c1 : Array Value) (F : Nat) (z : F0) (q : World) : Prop where
 bel : Below w.heap.size w q
 sta : Lies q (w.heap.size + 1) 26 c1
 box : Lies q F 86 (f0C z 0)
 th : Lies q z.T 40 thZ2
 hF : w.heap.size + 1 < F ∧ w.heap.size + 1 < z.T ∧ w.heap.size + 1 < z.S
theorem Ld1S.later {w q q' : World} {c1 : Array Value} {F : Nat} {z : F0} (h : Ld1S w c1 F z q) (k : Below q.heap.size q q') : Ld1S w c1 F z q' :=
 ⟨h.bel.trans (k.mono h.bel.size), h.sta.below k h.sta.lt, h.box.below k h.box.lt, h.th.below k h.th.lt, h.hF⟩
structure Ld2S (w : World) (c1 : Array Value) (F : Nat) (z : F0) (q : World) : Prop where
 bel : Below w.heap.size w q
 sta : Lies q (w.heap.size + 1) 26 c1
 box : Lies q F 86 (f0C z 0)
 hF : w.heap.size + 1 < F
def Ld0P (w : World) (k : Nat) (e : Ending) (w' : World) : Prop := ∃ F, e = .returned (.tuple #[.pointer (some ⟨F, 0, none⟩), .int .i64 0]) ∧ w'.cell? ⟨F, 5, none⟩ = some (.int .u64 (k : Int)) ∧ F < w'.heap.size ∧ w.heap.size ≤ F ∧ Below w.heap.size w w'
theorem now0 (F k : Nat) (w : World) (h5 : w.cell? ⟨F, 5, none⟩ = some (.int .u64 (k : Int))) (hlt : F < w.heap.size) : Calls Try.prog 14 #[.pointer (some ⟨F, 0, none⟩)] w fun q w' => q = .returned (.int .u64 (k : Int)) ∧ w = w' := by
 go_enter Try.func14, Try.ntmps14
 go_wp2
 go_ret
 exact ⟨rfl, rfl⟩
set_option maxHeartbeats 8000000 in
set_option maxRecDepth 100000 in
theorem fbLoadNo (A : Option Addr) (c : Nat) (Q : Option Addr) (d : Nat) (At : Option Addr) (ct : Nat) (Ar : Option Addr) (cr : Nat) (n r : Nat) (b : Bool) (w : World) (h : PgAt w A c Q d pg0) (hct : ct ≤ 9223372036854775807) :
  Calls Try.prog 33 #[.agg #[.slice A 0 c, .slice Q 1 d], .agg (stC (.slice At 0 ct) (.slice Ar 0 cr) n r b)] w fun e w' => e = .returned (.tuple #[.pointer none, .int .i64 3]) ∧ Below w.heap.size w w' := by
 have hb0 : Below w.heap.size w ((w.alloc (.cells #[.slice A 0 c, .slice Q 1 d] 47)).alloc (.cells (stC (.slice At 0 ct) (.slice Ar 0 cr) n r b) 26)) := ((Below.refl _ _).alloc (Nat.le_refl _) _).alloc (by simp) _
 have l0 := (Lies.made w 47 #[.slice A 0 c, .slice Q 1 d]).alloc (.cells (stC (.slice At 0 ct) (.slice Ar 0 cr) n r b) 26)
 have l1 := Lies.made (w.alloc (.cells #[.slice A 0 c, .slice Q 1 d] 47)) 26 (stC (.slice At 0 ct) (.slice Ar 0 cr) n r b)
 rw [World.size_alloc] at l1
 have HNW := Lib.hid (fbNew0 A c Q d _ (h.later hb0))
 have HB0 := Lib.hid hb0
 have HL1 := Lib.hid l1
 obtain ⟨hd1, hd2⟩ := h.2.form
 obtain ⟨hc1, hc2⟩ := seq_form h.1
 simp only [pg0, List.length_nil, List.length_singleton] at hc1 hd1
 clear h l0 l1 hb0
 go_enter Try.func33, Try.ntmps33
 go_wp2_with fail
 generalize (w.alloc (.cells #[.slice A 0 c, .slice Q 1 d] 47)).alloc (.cells (stC (.slice At 0 ct) (.slice Ar 0 cr) n r b) 26) = w1 at *
 refine HNW.out.mono ?_
 rintro e w2 ⟨F, z, rfl, hf, hb2⟩
 have HB2 := Lib.hid (HB0.out.trans (hb2.mono HB0.out.size))
 have HL2 := Lib.hid (HL1.out.below hb2 HL1.out.lt)
 have HF2 := Lib.hid hf.box
 clear hf hb2 HNW HB0 HL1
 go_upto_region 4 with (fail)
 have c2 := (HF2.out.cell 2).trans (show _ = some (Value.slice (some ⟨z.T, 0, none⟩) 1 1) from rfl)
 have s0 := (HL2.out.cell 0).trans (show _ = some (Value.slice At 0 ct) from rfl)
 have sl := HL2.out.lt
 have fl := HF2.out.lt
 go_quiet (fail)
 have HB3 : Hid (Below w.heap.size w (w2.drewN nq)) := by
  have hk := below_drewN (Below.refl w2.heap.size w2) nq
  exact HB2.out.trans (hk.mono HB2.out.size)
 clear c2 s0 sl fl HB2 HL2 HF2
 generalize w2.drewN nq = w3 at *
 go_wp2_with fail
 go_ret2
 exact ⟨rfl, HB3.out⟩
set_option maxHeartbeats 8000000 in
set_option maxRecDepth 100000 in
theorem fbLoad0 (A : Option Addr) (c : Nat) (Q : Option Addr) (d : Nat) (At : Option Addr) (ct : Nat) (Ar : Option Addr) (cr : Nat) (k : Nat) (w : World) (h : PgAt w A c Q d pg0) (hts : ThsR w (.slice At 1 ct) [x1]) (hcr : cr ≤ 9223372036854775807) :
  Calls Try.prog 33 #[.agg #[.slice A 0 c, .slice Q 1 d], .agg (stC (.slice At 1 ct) (.slice Ar 0 cr) k 0 false)] w (Ld0P w k) := by
 have hb0 : Below w.heap.size w ((w.alloc (.cells #[.slice A 0 c, .slice Q 1 d] 47)).alloc (.cells (stC (.slice At 1 ct) (.slice Ar 0 cr) k 0 false) 26)) := ((Below.refl _ _).alloc (Nat.le_refl _) _).alloc (by simp) _
 have l0 := (Lies.made w 47 #[.slice A 0 c, .slice Q 1 d]).alloc (.cells (stC (.slice At 1 ct) (.slice Ar 0 cr) k 0 false) 26)
 have l1 := Lies.made (w.alloc (.cells #[.slice A 0 c, .slice Q 1 d] 47)) 26 (stC (.slice At 1 ct) (.slice Ar 0 cr) k 0 false)
 rw [World.size_alloc] at l1
 have HNW := Lib.hid (fbNew0 A c Q d _ (h.later hb0))
 have HB0 := Lib.hid hb0
 have HL0 := Lib.hid l0
 have HL1 := Lib.hid l1
 have HH := Lib.hid h
 have HTS := Lib.hid hts
 obtain ⟨hd1, hd2⟩ := h.2.form
 obtain ⟨hc1, hc2⟩ := seq_form h.1
 simp only [pg0, List.length_nil, List.length_singleton] at hc1 hd1
 obtain ⟨a1, a2⟩ := hts.caps
 simp only [List.length_singleton] at a1
 clear h l0 l1 hb0 hts
 go_enter Try.func33, Try.ntmps33
 go_wp2_with fail
 generalize hW : (w.alloc (.cells #[.slice A 0 c, .slice Q 1 d] 47)).alloc (.cells (stC (.slice At 1 ct) (.slice Ar 0 cr) k 0 false) 26) = w1 at *
 clear hW
 refine HNW.out.mono ?_
 rintro e w2 ⟨F, z, rfl, hf, hb2⟩
 have HLS : Hid (Ld0S w #[.slice A 0 c, .slice Q 1 d] (stC (.slice At 1 ct) (.slice Ar 0 cr) k 0 false) F z w2) := by
  have hw := HL1.out.lt
  have h9 := hf.hF
  exact ⟨HB0.out.trans (hb2.mono HB0.out.size), HL0.out.below hb2 HL0.out.lt, HL1.out.below hb2 HL1.out.lt, ⟨hf.box, ownPg_mono hf.pg HB0.out.size, hf.th, hf.sn, by have := HB0.out.size; omega⟩, by omega⟩
 clear hf hb2 HNW HB0 HL0 HL1
 go_upto_region 4 with (fail)
 have c2 := (HLS.out.fab.box.cell 2).trans (show _ = some (Value.slice (some ⟨z.T, 0, none⟩) 1 1) from rfl)
 have c4 := (HLS.out.fab.box.cell 4).trans (show _ = some (Value.slice none 0 0) from rfl)
 have s0 := (HLS.out.sta.cell 0).trans (show _ = some (Value.slice At 1 ct) from rfl)
 have s1 := (HLS.out.sta.cell 1).trans (show _ = some (Value.slice Ar 0 cr) from rfl)
 have sl := HLS.out.sta.lt
 have fl := HLS.out.fab.box.lt
 go_quiet (fail)
 have HI := Lib.hid (HLS.out.later (below_drewN (Below.refl w2.heap.size w2) nq))
 clear c2 c4 s0 s1 sl fl HLS
 generalize w2.drewN nq = w3 at *
 have s1 := (HI.out.sta.cell 1).trans (show _ = some (Value.slice Ar 0 cr) from rfl)
 have sl := HI.out.sta.lt
 go_wp2_with fail
 clear s1 sl
 go_loopw [46] (fun u wr => u = .int .i64 0 ∧ wr = w3) (fun u _ => 0)
 case atStart => exact ⟨rfl, rfl⟩
 case round =>
  obtain ⟨rfl, rfl⟩ := hrel
  have s0 := (HI.out.sta.cell 0).trans (show _ = some (Value.slice At 1 ct) from rfl)
  have sl := HI.out.sta.lt
  go_wp2_with fail
  clear s0 sl
  go_loopw [81] (fun u wq => (u = .int .i64 0 ∧ wq = wr) ∨ (u = .int .i64 1 ∧ Hid (Ld2S w (stC (.slice At 1 ct) (.slice Ar 0 cr) k 0 false) F z wq))) (fun u _ => 1 - (intOf u).toNat)
  case atStart => exact .inl ⟨rfl, rfl⟩
  case round =>
   rcases hrel with ⟨rfl, rfl⟩ | ⟨rfl, HJ⟩
   ·obtain ⟨T8, o8, A8, d8, rfl, hT8, hTC, hsq, hd81, hd82⟩ := (HTS.out.later HI.out.bel).at_ (show ([x1] : List Th)[0]? = some x1 from rfl)
    obtain ⟨qb, qo, A7, c7, rfl, hcq, hin⟩ := HH.out.2.at_ (show pg0.ts[0]? = some hl0 from rfl)
    have hld : (loadVar 40 ⟨T8, o8, none⟩).run Try.prog wr = .ok (.agg (thV (.slice A8 0 d8))) wr := th_load2 (q := wr) (b := T8) (off := o8) (x := x1) (v := .slice A8 0 d8) (fun j u hu => by have := hTC j u hu; rwa [Nat.zero_mul, Nat.add_zero] at this)
    have HIN : Hid (w.cell? ⟨qb, qo, none⟩ = some (.slice A7 1 c7) ∧ InsAt w A7 c7 hl0) := ⟨by have := hcq; rwa [Nat.add_zero] at this, hin⟩
    have hbx : Below wr.heap.size wr (wr.alloc (.cells (thV (.slice A8 0 d8)) 40)) := (Below.refl _ _).alloc (Nat.le_refl _) _
    have HLX := Lib.hid (Lies.made wr 40 (thV (.slice A8 0 d8)))
    have HI4 := Lib.hid (HI.out.later hbx)
    have hsq0 : SeqS wr 1 (.slice A8 0 d8) 0 (cells64 []) := hsq
    have HSQ := Lib.hid (hsq0.later hbx)
    have HNZ : Hid (w.heap.size + 1 < wr.heap.size ∧ F < wr.heap.size ∧ z.T < wr.heap.size ∧ z.S < wr.heap.size) := ⟨HI.out.sta.lt, HI.out.fab.box.lt, HI.out.fab.th.lt, HI.out.fab.sn.lt⟩
    clear hTC hcq hin hsq hbx hsq0
    go_wp2_with (refine wpList_load_known rfl _ _ rfl T8 o8 rfl _ hld ?_)
    clear hld hT8 HI
    generalize wr.alloc (.cells (thV (.slice A8 0 d8)) 40) = w4 at *
    generalize wr.heap.size = N9 at *
    have HCC : Hid (∀ q, Below w4.heap.size w4 q → q.cell? ⟨w.heap.size, 1, none⟩ = some (.slice (some ⟨qb, qo, none⟩) 1 d) ∧ q.cell? ⟨qb, qo, none⟩ = some (.slice A7 1 c7) ∧ Lies q N9 40 (thV (.slice A8 0 d8)) ∧ w.heap.size < q.heap.size ∧ qb < q.heap.size ∧ N9 < q.heap.size ∧ InsAt q A7 c7 hl0 ∧ F0At w.heap.size F z q ∧ F < q.heap.size) := fun q hq => by
     have hI := HI4.out.later hq
     have g1 := cell_later HIN.out.1 hI.bel
     exact ⟨(hI.box.cell 1).trans (show _ = some (Value.slice (some ⟨qb, qo, none⟩) 1 d) from rfl), g1, HLX.out.below hq HLX.out.lt, hI.box.lt, World.block_lt_of_cell? _ _ g1, Nat.lt_of_lt_of_le HLX.out.lt hq.size, HIN.out.2.later hI.bel, hI.fab, hI.fab.box.lt⟩
    have HRI := Lib.hid (fun (q : World) (hq : Below w4.heap.size w4 q) => (by
     have := thRight hl0 A7 c7 x1 (.slice A8 0 d8) q (HCC.out q hq).2.2.2.2.2.2.1
     rw [th1_B] at this
     exact this : Calls Try.prog 51 #[.slice A7 1 c7, .agg (thV (.slice A8 0 d8))] q fun e w' => e = .returned (.bool true) ∧ Below q.heap.size q w'))
    have HGA := Lib.hid (fun (q : World) (hq : Below w4.heap.size w4 q) => gave0 (.slice A8 0 d8) w.heap.size F z q (HCC.out q hq).2.2.2.2.2.2.2.1)
    refine wp_region_rely (fun q => Below w4.heap.size w4 q) (bfV [.eq (.pointer (some ⟨w.heap.size, 1, none⟩)), .eq (.slice (some ⟨qb, qo, none⟩) 1 d), .eq (.int .i64 0), .eq (.pointer (some ⟨qb, qo, none⟩)), .eq (.slice A7 1 c7), .eq (.agg (thV (.slice A8 0 d8))), .eq (.bool true), .eq (.bool false), .eq (.bool false), .eq (.pointer (some ⟨F, 0, none⟩)), .eq (.int .i64 0), .eq (.agg (thV (.slice A8 0 d8))), .eq (.bool true), .eq (.bool false), .eq (.bool false)]) [some 86, some 87, some 88, some 89, some 90, some 91, some 92, some 93, some 94, some 95, some 96, some 97, some 98, some 99, some 100] [[], [0], [], [1, 2], [3], [], [4, 5], [6], [7], [8], [8], [8], [9, 10, 11, 8], [12, 8], [8, 13]] [[], [0], [], [0, 1, 2], [1, 2, 3], [], [3, 4, 5], [4, 5, 6], [4, 5, 6, 7], [7], [7], [7], [7, 9, 10, 11], [7, 9, 10, 11, 12], [7, 12, 13]] [[2, 3, 4, 5, 6, 7, 8, 9, 10, 11, 12, 13, 14], [2, 4, 5, 6, 7, 8, 9, 10, 11, 12, 13, 14], [0, 1, 4, 5, 6, 7, 8, 9, 10, 11, 12, 13, 14], [5, 6, 7, 8, 9, 10, 11, 12, 13, 14], [5, 7, 8, 9, 10, 11, 12, 13, 14], [0, 1, 2, 3, 4, 7, 8, 9, 10, 11, 12, 13, 14], [0, 9, 10, 11, 12, 13, 14], [0, 1, 2, 9, 10, 11, 12, 13, 14], [0, 1, 2], [0, 1, 2, 3, 8, 10, 11, 13, 14], [0, 1, 2, 3, 8, 9, 11, 13, 14], [0, 1, 2, 3, 8, 9, 10, 13, 14], [0, 1, 2, 3, 8, 14], [0, 1, 2, 3, 8], [0, 1, 2, 3, 8]] [0, 1, 2, 3, 4, 5, 6, 7, 8, 9, 10, 11, 12, 13, 14] 15 (by kernel_rfl) (by kernel_rfl) (by kernel_rfl) (by kernel_rfl) ?rS (fun j h1 h2 => absurd (Nat.lt_of_lt_of_le h1 (Nat.le_trans (by decide) h2)) (Nat.lt_irrefl _)) ?rT ?rE
    case rS => exact below_drewN (Below.refl _ _) 1
    case rT =>
     refine RelySteps.cons (RelyStep.mk [] [2, 3, 4, 5, 6, 7, 8, 9, 10, 11, 12, 13, 14] rfl rfl rfl (fun xv wS hS hV bq hb K hK => ?_)) ?_
     ·clear hV
      simp only [putsOf, List.foldl_cons, List.foldl_nil, List.getD_cons_zero, List.getD_cons_succ, List.getD_nil, cond_true, cond_false, Act.put, List.setIfInBounds_toArray, List.set_cons_zero, List.set_cons_succ] at hb
      subst hb
      rw [if_pos (by rfl)]
      go_wp2_with fail
      exact hK.out _ _ ⟨_, rfl, hS, rfl, AllP.same _⟩
     refine RelySteps.cons (RelyStep.mk [0] [2, 4, 5, 6, 7, 8, 9, 10, 11, 12, 13, 14] rfl rfl rfl (fun xv wS hS hV bq hb K hK => ?_)) ?_
     ·obtain ⟨h0, _⟩ := hV
      have h0 : xv 0 = _ := h0
      simp only [putsOf, List.foldl_cons, List.foldl_nil, List.getD_cons_zero, List.getD_cons_succ, List.getD_nil, cond_true, cond_false, Act.put, List.setIfInBounds_toArray, List.set_cons_zero, List.set_cons_succ, h0] at hb
      clear h0
      subst hb
      rw [if_pos (by rfl)]
      (obtain ⟨q1, q2, q3, q4, q5, q6, q7, q8, q9⟩ := HCC.out _ hS)
      go_wp2_with fail
      exact hK.out _ _ ⟨_, rfl, hS, rfl, AllP.same _⟩
     refine RelySteps.cons (RelyStep.mk [] [0, 1, 4, 5, 6, 7, 8, 9, 10, 11, 12, 13, 14] rfl rfl rfl (fun xv wS hS hV bq hb K hK => ?_)) ?_
     ·clear hV
      simp only [putsOf, List.foldl_cons, List.foldl_nil, List.getD_cons_zero, List.getD_cons_succ, List.getD_nil, cond_true, cond_false, Act.put, List.setIfInBounds_toArray, List.set_cons_zero, List.set_cons_succ] at hb
      subst hb
      rw [if_pos (by rfl)]
      go_wp2_with fail
      exact hK.out _ _ ⟨_, rfl, hS, rfl, AllP.same _⟩
     refine RelySteps.cons (RelyStep.mk [1, 2] [5, 6, 7, 8, 9, 10, 11, 12, 13, 14] rfl rfl rfl (fun xv wS hS hV bq hb K hK => ?_)) ?_
     ·obtain ⟨h1, h2, _⟩ := hV
      have h1 : xv 1 = _ := h1
      have h2 : xv 2 = _ := h2
      simp only [putsOf, List.foldl_cons, List.foldl_nil, List.getD_cons_zero, List.getD_cons_succ, List.getD_nil, cond_true, cond_false, Act.put, List.setIfInBounds_toArray, List.set_cons_zero, List.set_cons_succ, h1, h2] at hb
      clear h1
      clear h2
      subst hb
      rw [if_pos (by rfl)]
      go_wp2_with fail
      exact hK.out _ _ ⟨_, rfl, hS, rfl, AllP.same _⟩
     refine RelySteps.cons (RelyStep.mk [3] [5, 7, 8, 9, 10, 11, 12, 13, 14] rfl rfl rfl (fun xv wS hS hV bq hb K hK => ?_)) ?_
     ·obtain ⟨h3, _⟩ := hV
      have h3 : xv 3 = _ := h3
      simp only [putsOf, List.foldl_cons, List.foldl_nil, List.getD_cons_zero, List.getD_cons_succ, List.getD_nil, cond_true, cond_false, Act.put, List.setIfInBounds_toArray, List.set_cons_zero, List.set_cons_succ, h3] at hb
      clear h3
      subst hb
      rw [if_pos (by rfl)]
      (obtain ⟨q1, q2, q3, q4, q5, q6, q7, q8, q9⟩ := HCC.out _ hS)
      go_wp2_with fail
      exact hK.out _ _ ⟨_, rfl, hS, rfl, AllP.same _⟩
     refine RelySteps.cons (RelyStep.mk [] [0, 1, 2, 3, 4, 7, 8, 9, 10, 11, 12, 13, 14] rfl rfl rfl (fun xv wS hS hV bq hb K hK => ?_)) ?_
     ·clear hV
      simp only [putsOf, List.foldl_cons, List.foldl_nil, List.getD_cons_zero, List.getD_cons_succ, List.getD_nil, cond_true, cond_false, Act.put, List.setIfInBounds_toArray, List.set_cons_zero, List.set_cons_succ] at hb
      subst hb
      rw [if_pos (by rfl)]
      have HSS := Lib.hid hS
      clear hS
      refine wp_load_known _ _ rfl N9 0 rfl _ (th_loadL2 (x := x1) (v := .slice A8 0 d8) (HCC.out _ HSS.out).2.2.1) ?_
      exact hK.out _ _ ⟨_, rfl, HSS.out, rfl, AllP.same _⟩
     refine RelySteps.cons (RelyStep.mk [4, 5] [0, 9, 10, 11, 12, 13, 14] rfl rfl rfl (fun xv wS hS hV bq hb K hK => ?_)) ?_
     ·obtain ⟨h4, h5, _⟩ := hV
      have h4 : xv 4 = _ := h4
      have h5 : xv 5 = _ := h5
      simp only [putsOf, List.foldl_cons, List.foldl_nil, List.getD_cons_zero, List.getD_cons_succ, List.getD_nil, cond_true, cond_false, Act.put, List.setIfInBounds_toArray, List.set_cons_zero, List.set_cons_succ, h4, h5] at hb
      clear h4
      clear h5
      subst hb
      rw [if_pos (by rfl)]
      have HSS := Lib.hid hS
      clear hS
      go_wp2_with fail
      refine (HRI.out wS HSS.out).mono ?_
      rintro e w5 ⟨rfl, hb5⟩
      exact hK.out _ _ ⟨_, rfl, then_ HSS.out hb5, rfl, AllP.of _ (fun j _ _ h => bfV_below hb5 h)⟩
     refine RelySteps.cons (RelyStep.mk [6] [0, 1, 2, 9, 10, 11, 12, 13, 14] rfl rfl rfl (fun xv wS hS hV bq hb K hK => ?_)) ?_
     ·obtain ⟨h6, _⟩ := hV
      have h6 : xv 6 = _ := h6
      simp only [putsOf, List.foldl_cons, List.foldl_nil, List.getD_cons_zero, List.getD_cons_succ, List.getD_nil, cond_true, cond_false, Act.put, List.setIfInBounds_toArray, List.set_cons_zero, List.set_cons_succ, h6] at hb
      clear h6
      subst hb
      rw [if_pos (by rfl)]
      go_wp2_with fail
      exact hK.out _ _ ⟨_, rfl, hS, rfl, AllP.same _⟩
     refine RelySteps.cons (RelyStep.mk [7] [0, 1, 2] rfl rfl rfl (fun xv wS hS hV bq hb K hK => ?_)) ?_
     ·obtain ⟨h7, _⟩ := hV
      have h7 : xv 7 = _ := h7
      simp only [putsOf, List.foldl_cons, List.foldl_nil, List.getD_cons_zero, List.getD_cons_succ, List.getD_nil, cond_true, cond_false, Act.put, List.setIfInBounds_toArray, List.set_cons_zero, List.set_cons_succ, h7] at hb
      clear h7
      subst hb
      rw [if_pos (by rfl)]
      go_wp2_with fail
      exact hK.out _ _ ⟨_, rfl, hS, rfl, AllP.same _⟩
     refine RelySteps.cons (RelyStep.mk [8] [0, 1, 2, 3, 8, 10, 11, 13, 14] rfl rfl rfl (fun xv wS hS hV bq hb K hK => ?_)) ?_
     ·obtain ⟨h8, _⟩ := hV
      have h8 : xv 8 = _ := h8
      simp only [putsOf, List.foldl_cons, List.foldl_nil, List.getD_cons_zero, List.getD_cons_succ, List.getD_nil, cond_true, cond_false, Act.put, List.setIfInBounds_toArray, List.set_cons_zero, List.set_cons_succ, h8] at hb
      clear h8
      subst hb
      rw [if_pos (by rfl)]
      go_wp2_with fail
      exact hK.out _ _ ⟨_, rfl, hS, rfl, AllP.same _⟩
     refine RelySteps.cons (RelyStep.mk [8] [0, 1, 2, 3, 8, 9, 11, 13, 14] rfl rfl rfl (fun xv wS hS hV bq hb K hK => ?_)) ?_
     ·obtain ⟨h8, _⟩ := hV
      have h8 : xv 8 = _ := h8
      simp only [putsOf, List.foldl_cons, List.foldl_nil, List.getD_cons_zero, List.getD_cons_succ, List.getD_nil, cond_true, cond_false, Act.put, List.setIfInBounds_toArray, List.set_cons_zero, List.set_cons_succ, h8] at hb
      clear h8
      subst hb
      rw [if_pos (by rfl)]
      go_wp2_with fail
      exact hK.out _ _ ⟨_, rfl, hS, rfl, AllP.same _⟩
     refine RelySteps.cons (RelyStep.mk [8] [0, 1, 2, 3, 8, 9, 10, 13, 14] rfl rfl rfl (fun xv wS hS hV bq hb K hK => ?_)) ?_
     ·obtain ⟨h8, _⟩ := hV
      have h8 : xv 8 = _ := h8
      simp only [putsOf, List.foldl_cons, List.foldl_nil, List.getD_cons_zero, List.getD_cons_succ, List.getD_nil, cond_true, cond_false, Act.put, List.setIfInBounds_toArray, List.set_cons_zero, List.set_cons_succ, h8] at hb
      clear h8
      subst hb
      rw [if_pos (by rfl)]
      have HSS := Lib.hid hS
      clear hS
      refine wp_load_known _ _ rfl N9 0 rfl _ (th_loadL2 (x := x1) (v := .slice A8 0 d8) (HCC.out _ HSS.out).2.2.1) ?_
      exact hK.out _ _ ⟨_, rfl, HSS.out, rfl, AllP.same _⟩
     refine RelySteps.cons (RelyStep.mk [9, 10, 11, 8] [0, 1, 2, 3, 8, 14] rfl rfl rfl (fun xv wS hS hV bq hb K hK => ?_)) ?_
     ·obtain ⟨h9, h10, h11, h8, _⟩ := hV
      have h9 : xv 9 = _ := h9
      have h10 : xv 10 = _ := h10
      have h11 : xv 11 = _ := h11
      have h8 : xv 8 = _ := h8
      simp only [putsOf, List.foldl_cons, List.foldl_nil, List.getD_cons_zero, List.getD_cons_succ, List.getD_nil, cond_true, cond_false, Act.put, List.setIfInBounds_toArray, List.set_cons_zero, List.set_cons_succ, h9, h10, h11, h8] at hb
      clear h9
      clear h10
      clear h11
      clear h8
      subst hb
      rw [if_pos (by rfl)]
      have HSS := Lib.hid hS
      clear hS
      go_wp2_with fail
      refine (HGA.out wS HSS.out).mono ?_
      rintro e w5 ⟨rfl, hb5⟩
      exact hK.out _ _ ⟨_, rfl, then_ HSS.out hb5, rfl, AllP.of _ (fun j _ _ h => bfV_below hb5 h)⟩
     refine RelySteps.cons (RelyStep.mk [12, 8] [0, 1, 2, 3, 8] rfl rfl rfl (fun xv wS hS hV bq hb K hK => ?_)) ?_
     ·obtain ⟨h12, h8, _⟩ := hV
      have h12 : xv 12 = _ := h12
      have h8 : xv 8 = _ := h8
      simp only [putsOf, List.foldl_cons, List.foldl_nil, List.getD_cons_zero, List.getD_cons_succ, List.getD_nil, cond_true, cond_false, Act.put, List.setIfInBounds_toArray, List.set_cons_zero, List.set_cons_succ, h12, h8] at hb
      clear h12
      clear h8
      subst hb
      rw [if_pos (by rfl)]
      go_wp2_with fail
      exact hK.out _ _ ⟨_, rfl, hS, rfl, AllP.same _⟩
     refine RelySteps.cons (RelyStep.mk [8, 13] [0, 1, 2, 3, 8] rfl rfl rfl (fun xv wS hS hV bq hb K hK => ?_)) ?_
     ·obtain ⟨h8, h13, _⟩ := hV
      have h8 : xv 8 = _ := h8
      have h13 : xv 13 = _ := h13
      simp only [putsOf, List.foldl_cons, List.foldl_nil, List.getD_cons_zero, List.getD_cons_succ, List.getD_nil, cond_true, cond_false, Act.put, List.setIfInBounds_toArray, List.set_cons_zero, List.set_cons_succ, h8, h13] at hb
      clear h8
      clear h13
      subst hb
      rw [if_pos (by rfl)]
      go_wp2_with fail
      exact hK.out _ _ ⟨_, rfl, hS, rfl, AllP.same _⟩
     exact RelySteps.nil
    case rE =>
    intro xv wE hS hV
    have h8 := hV 8 (by decide) (by decide)
    have h14 := hV 14 (by decide) (by decide)
    clear hV
    simp only [putsOf, List.foldl_cons, List.foldl_nil, List.getD_cons_zero, List.getD_cons_succ, List.getD_nil, cond_true, cond_false, Act.put, List.setIfInBounds_toArray, List.set_cons_zero, List.set_cons_succ]
    have h8 : xv 8 = _ := h8
    have h14 : xv 14 = _ := h14
    rw [h8]; clear h8
    rw [h14]; clear h14
    generalize xv 0 = y0 at *
    generalize xv 1 = y1 at *
    generalize xv 2 = y2 at *
    generalize xv 3 = y3 at *
    generalize xv 4 = y4 at *
    generalize xv 5 = y5 at *
    generalize xv 6 = y6 at *
    generalize xv 7 = y7 at *
    generalize xv 9 = y9 at *
    generalize xv 10 = y10 at *
    generalize xv 11 = y11 at *
    generalize xv 12 = y12 at *
    generalize xv 13 = y13 at *
    have HI5 := Lib.hid (HI4.out.later hS)
    have HLX5 := Lib.hid (HLX.out.below hS HLX.out.lt)
    have HSQ5 := Lib.hid (HSQ.out.later hS)
    clear hS HI4 HLX HSQ HCC HRI HGA
    generalize wE = w5 at *
    go_upto_region 21 with (fail)
    have HCC : Hid (∀ q, Below w5.heap.size w5 q → q.cell? ⟨F, 3, none⟩ = some (.slice (some ⟨z.S, 0, none⟩) 1 1) ∧ q.cell? ⟨N9, 13, none⟩ = some (.slice A8 0 d8) ∧ F < q.heap.size ∧ N9 < q.heap.size ∧ z.S < q.heap.size ∧ Lies q z.S 38 #[.slice none 0 0]) := fun q hq => by
     have hI := HI5.out.later hq
     have l3 := HLX5.out.below hq HLX5.out.lt
     exact ⟨(hI.fab.box.cell 3).trans rfl, (l3.cell 13).trans rfl, hI.fab.box.lt, l3.lt, hI.fab.sn.lt, hI.fab.sn⟩
    have HCL := Lib.hid (fun (q : World) (hq : Below w5.heap.size w5 q) => (clone16 [] A8 d8 q (HSQ5.out.later hq) (by decide) : Calls Try.prog 53 #[.slice A8 0 d8] q fun e w' => ∃ v, e = .returned v ∧ w'.ownsRow q.heap.size 24 1 v 0 (cells64 []) ∧ Below q.heap.size q w'))
    refine wp_region_relyx (PuS w5 (.slice none 0 0) z.S 0 7 9 [0, 1, 2, 3, 4, 5, 6, 7, 8] [] (fun v q => ∃ A' c', v = Value.slice A' 0 c' ∧ Below w5.heap.size w5 q)) (bfV [.eq (.pointer (some ⟨F, 0, none⟩)), .eq (.pointer (some ⟨F, 0, none⟩)), .eq (.pointer (some ⟨F, 3, none⟩)), .eq (.slice (some ⟨z.S, 0, none⟩) 1 1), .eq (.int .i64 0), .eq (.pointer (some ⟨N9, 13, none⟩)), .eq (.slice A8 0 d8), .any, .eq (.pointer (some ⟨z.S, 0, none⟩)), .any]) [some 101, some 102, some 103, some 104, some 105, some 106, some 107, some 108, some 109, none] [[], [0], [1], [2], [], [], [5], [6], [3, 4], [8, 7]] [[], [0], [0, 1], [1, 2], [], [], [5], [5, 6], [0, 1, 2, 3, 4, 5, 6], [0, 1, 2, 3, 4, 5, 6, 8]] [[2, 3, 4, 5, 6, 7], [3, 4, 5, 6, 7], [4, 5, 6, 7], [4, 5, 6, 7], [0, 1, 2, 3, 5, 6, 7], [0, 1, 2, 3, 4, 7], [0, 1, 2, 3, 4], [0, 1, 2, 3, 4], [7], [7]] [0, 1, 2, 3, 4, 5, 6, 7, 8, 9] 10 (by kernel_rfl) (by kernel_rfl) (by kernel_rfl) (by kernel_rfl) ?rS (fun j h1 h2 => absurd (Nat.lt_of_lt_of_le h1 (Nat.le_trans (by decide) h2)) (Nat.lt_irrefl _)) ?rT ?rE
    case rS => exact pu_start
    case rT =>
     refine RelyStepsX.cons (RelyStepX.mk [] [2, 3, 4, 5, 6, 7] rfl rfl rfl (fun xv Lv wS hS hL hLd hV bq hb K hK => ?_)) ?_
     ·clear hV
      simp only [putsOf, List.foldl_cons, List.foldl_nil, List.getD_cons_zero, List.getD_cons_succ, List.getD_nil, cond_true, cond_false, Act.put, List.setIfInBounds_toArray, List.set_cons_zero, List.set_cons_succ] at hb
      subst hb
      rw [if_pos (by rfl)]
      go_wp2_with fail
      exact hK.out _ _ ⟨_, rfl, pu_op (i := 0) rfl hS, rfl, AllPX.same _⟩
     refine RelyStepsX.cons (RelyStepX.mk [0] [3, 4, 5, 6, 7] rfl rfl rfl (fun xv Lv wS hS hL hLd hV bq hb K hK => ?_)) ?_
     ·obtain ⟨h0, _⟩ := hV
      have h0 : xv 0 = _ := h0
      simp only [putsOf, List.foldl_cons, List.foldl_nil, List.getD_cons_zero, List.getD_cons_succ, List.getD_nil, cond_true, cond_false, Act.put, List.setIfInBounds_toArray, List.set_cons_zero, List.set_cons_succ, h0] at hb
      clear h0
      subst hb
      rw [if_pos (by rfl)]
      (obtain ⟨q1, q2, q3, q4, q5, q6⟩ := HCC.out _ (pu_nil hS hL rfl))
      go_wp2_with fail
      exact hK.out _ _ ⟨_, rfl, pu_op (i := 1) rfl hS, rfl, AllPX.same _⟩
     refine RelyStepsX.cons (RelyStepX.mk [1] [4, 5, 6, 7] rfl rfl rfl (fun xv Lv wS hS hL hLd hV bq hb K hK => ?_)) ?_
     ·obtain ⟨h1, _⟩ := hV
      have h1 : xv 1 = _ := h1
      simp only [putsOf, List.foldl_cons, List.foldl_nil, List.getD_cons_zero, List.getD_cons_succ, List.getD_nil, cond_true, cond_false, Act.put, List.setIfInBounds_toArray, List.set_cons_zero, List.set_cons_succ, h1] at hb
      clear h1
      subst hb
      rw [if_pos (by rfl)]
      go_wp2_with fail
      exact hK.out _ _ ⟨_, rfl, pu_op (i := 2) rfl hS, rfl, AllPX.same _⟩
     refine RelyStepsX.cons (RelyStepX.mk [2] [4, 5, 6, 7] rfl rfl rfl (fun xv Lv wS hS hL hLd hV bq hb K hK => ?_)) ?_
     ·obtain ⟨h2, _⟩ := hV
      have h2 : xv 2 = _ := h2
      simp only [putsOf, List.foldl_cons, List.foldl_nil, List.getD_cons_zero, List.getD_cons_succ, List.getD_nil, cond_true, cond_false, Act.put, List.setIfInBounds_toArray, List.set_cons_zero, List.set_cons_succ, h2] at hb
      clear h2
      subst hb
      rw [if_pos (by rfl)]
      (obtain ⟨q1, q2, q3, q4, q5, q6⟩ := HCC.out _ (pu_nil hS hL rfl))
      go_wp2_with fail
      exact hK.out _ _ ⟨_, rfl, pu_op (i := 3) rfl hS, rfl, AllPX.same _⟩
     refine RelyStepsX.cons (RelyStepX.mk [] [0, 1, 2, 3, 5, 6, 7] rfl rfl rfl (fun xv Lv wS hS hL hLd hV bq hb K hK => ?_)) ?_
     ·clear hV
      simp only [putsOf, List.foldl_cons, List.foldl_nil, List.getD_cons_zero, List.getD_cons_succ, List.getD_nil, cond_true, cond_false, Act.put, List.setIfInBounds_toArray, List.set_cons_zero, List.set_cons_succ] at hb
      subst hb
      rw [if_pos (by rfl)]
      go_wp2_with fail
      exact hK.out _ _ ⟨_, rfl, pu_op (i := 4) rfl hS, rfl, AllPX.same _⟩
     refine RelyStepsX.cons (RelyStepX.mk [] [0, 1, 2, 3, 4, 7] rfl rfl rfl (fun xv Lv wS hS hL hLd hV bq hb K hK => ?_)) ?_
     ·clear hV
      simp only [putsOf, List.foldl_cons, List.foldl_nil, List.getD_cons_zero, List.getD_cons_succ, List.getD_nil, cond_true, cond_false, Act.put, List.setIfInBounds_toArray, List.set_cons_zero, List.set_cons_succ] at hb
      subst hb
      rw [if_pos (by rfl)]
      (obtain ⟨q1, q2, q3, q4, q5, q6⟩ := HCC.out _ (pu_nil hS hL rfl))
      go_wp2_with fail
      exact hK.out _ _ ⟨_, rfl, pu_op (i := 5) rfl hS, rfl, AllPX.same _⟩
     refine RelyStepsX.cons (RelyStepX.mk [5] [0, 1, 2, 3, 4] rfl rfl rfl (fun xv Lv wS hS hL hLd hV bq hb K hK => ?_)) ?_
     ·obtain ⟨h5, _⟩ := hV
      have h5 : xv 5 = _ := h5
      simp only [putsOf, List.foldl_cons, List.foldl_nil, List.getD_cons_zero, List.getD_cons_succ, List.getD_nil, cond_true, cond_false, Act.put, List.setIfInBounds_toArray, List.set_cons_zero, List.set_cons_succ, h5] at hb
      clear h5
      subst hb
      rw [if_pos (by rfl)]
      (obtain ⟨q1, q2, q3, q4, q5, q6⟩ := HCC.out _ (pu_nil hS hL rfl))
      go_wp2_with fail
      exact hK.out _ _ ⟨_, rfl, pu_op (i := 6) rfl hS, rfl, AllPX.same _⟩
     refine RelyStepsX.cons (RelyStepX.mk [6] [0, 1, 2, 3, 4] rfl rfl rfl (fun xv Lv wS hS hL hLd hV bq hb K hK => ?_)) ?_
     ·obtain ⟨h6, _⟩ := hV
      have h6 : xv 6 = _ := h6
      simp only [putsOf, List.foldl_cons, List.foldl_nil, List.getD_cons_zero, List.getD_cons_succ, List.getD_nil, cond_true, cond_false, Act.put, List.setIfInBounds_toArray, List.set_cons_zero, List.set_cons_succ, h6] at hb
      clear h6
      subst hb
      rw [if_pos (by rfl)]
      have hb9 := pu_bel hS hL rfl
      have HSS := Lib.hid hS
      clear hS
      go_wp2_with fail
      refine (HCL.out wS hb9).mono ?_
      rintro q w' ⟨u, rfl, ho, hb⟩
      obtain ⟨A', c', rfl, _⟩ := own_form2 ho
      exact hK.out _ _ ⟨_, rfl, pu_app rfl HSS.out ((Kept.of_below hb).mono (fun _ _ (hx : False) => hx.elim)) ⟨A', c', rfl, then_ hb9 hb⟩ (fun j hj => by cases hj), trivial, AllPX.of _ (fun j _ _ h => bfV_below hb h)⟩
     refine RelyStepsX.cons (RelyStepX.mk [3, 4] [7] rfl rfl rfl (fun xv Lv wS hS hL hLd hV bq hb K hK => ?_)) ?_
     ·obtain ⟨h3, h4, _⟩ := hV
      have h3 : xv 3 = _ := h3
      have h4 : xv 4 = _ := h4
      simp only [putsOf, List.foldl_cons, List.foldl_nil, List.getD_cons_zero, List.getD_cons_succ, List.getD_nil, cond_true, cond_false, Act.put, List.setIfInBounds_toArray, List.set_cons_zero, List.set_cons_succ, h3, h4] at hb
      clear h3
      clear h4
      subst hb
      rw [if_pos (by rfl)]
      go_wp2_with fail
      exact hK.out _ _ ⟨_, rfl, pu_op (i := 8) rfl hS, rfl, AllPX.same _⟩
     refine RelyStepsX.cons (RelyStepX.mk [8, 7] [7] rfl rfl rfl (fun xv Lv wS hS hL hLd hV bq hb K hK => ?_)) ?_
     ·obtain ⟨h8, h7, _⟩ := hV
      have h8 : xv 8 = _ := h8
      simp only [putsOf, List.foldl_cons, List.foldl_nil, List.getD_cons_zero, List.getD_cons_succ, List.getD_nil, cond_true, cond_false, Act.put, List.setIfInBounds_toArray, List.set_cons_zero, List.set_cons_succ, h8] at hb
      clear h8
      generalize hy7 : xv 7 = y7 at *
      subst hb
      rw [if_pos (by rfl)]
      obtain ⟨k1, A', c', e7, hb9⟩ := pu_st hS hL (hLd 7 (by decide +kernel))
      rw [hy7] at e7
      subst e7
      obtain ⟨q1, q2, q3, q4, q5, q6⟩ := HCC.out _ hb9
      have c8 := (q6.cell 0).trans (show _ = some (Value.slice none 0 0) from rfl)
      have f8 := q6.free 0
      have HSS := Lib.hid hS
      clear hS hb9 k1 q6
      go_wp2_with fail
      refine hK.out _ _ ⟨undef, rfl, ?_, trivial, AllPX.of _ (fun j hj _ h => bfV_lit (by rfl) hj h)⟩
      have := pu_store (v := undef) rfl HSS.out (fun j hj => hLd j (by revert hj; revert j; decide +kernel))
      rwa [hy7] at this
     exact RelyStepsX.nil
    case rE =>
    intro xv Lv wE hS hLall hV
    have h7 := hV 7 (by decide) (by decide)
    have h9 := hV 9 (by decide) (by decide)
    clear hV
    obtain ⟨q1, e1, k1, A', c', e7, hb9⟩ := pu_end hS (hLall 7 (by decide +kernel)) (hLall 9 (by decide +kernel))
    simp only [putsOf, List.foldl_cons, List.foldl_nil, List.getD_cons_zero, List.getD_cons_succ, List.getD_nil, cond_true, cond_false, Act.put, List.setIfInBounds_toArray, List.set_cons_zero, List.set_cons_succ]
    generalize xv 0 = y0 at *
    generalize xv 1 = y1 at *
    generalize xv 2 = y2 at *
    generalize xv 3 = y3 at *
    generalize xv 4 = y4 at *
    generalize xv 5 = y5 at *
    generalize xv 6 = y6 at *
    generalize xv 7 = y7 at *
    generalize xv 8 = y8 at *
    generalize xv 9 = y9 at *
    subst e7
    have HNE : Hid (z.S ≠ w.heap.size + 1 ∧ z.S ≠ F ∧ z.S ≠ z.T ∧ z.S ≠ N9) := by
     have hI := HI5.out
     refine ⟨by have := hI.hF; omega, fun e => ?_, fun e => ?_, by have := HNZ.out; omega⟩
     ·have h1 := hI.fab.sn
      rw [e] at h1
      exact absurd (h1.same hI.fab.box).1 (by decide)
     ·have h1 := hI.fab.sn
      rw [e] at h1
      exact absurd (h1.same hI.fab.th).1 (by decide)
    have hI1 := HI5.out.later hb9
    have HI6 : Hid (Ld1S w (stC (.slice (some ⟨T8, o8, none⟩) 1 ct) (.slice Ar 0 cr) k 0 false) F z wE) := by
     rw [e1]
     exact ⟨hI1.bel.setCell (p := ⟨z.S, 0, none⟩) (show w.heap.size ≤ z.S by have := hI1.hF; omega) _, hI1.sta.far (p := ⟨z.S, 0, none⟩) HNE.out.1.symm _, hI1.fab.box.far (p := ⟨z.S, 0, none⟩) HNE.out.2.1.symm _, hI1.fab.th.far (p := ⟨z.S, 0, none⟩) HNE.out.2.2.1.symm _, hI1.hF⟩
    have HL6 : Hid (Lies wE N9 40 (thV (.slice A8 0 d8))) := by
     rw [e1]
     exact (HLX5.out.below hb9 HLX5.out.lt).far (p := ⟨z.S, 0, none⟩) HNE.out.2.2.2.symm _
    clear hS hLall hI1 e1 k1 hb9 HCL HCC HI5 HLX5 HSQ5 HNE
    generalize wE = w6 at *
    have c13 := (HL6.out.cell 13).trans (show _ = some (Value.slice A8 0 d8) from rfl)
    have f13 := HL6.out.free 13
    have nl := HL6.out.lt
    go_upto_region 23 with (fail)
    have HL7 : Hid (Lies (w6.setCell ⟨N9, 13, none⟩ (.slice none 0 0)) N9 40 thO1) := HL6.out.put 13 (.slice none 0 0)
    have HI7 : Hid (Ld1S w (stC (.slice (some ⟨T8, o8, none⟩) 1 ct) (.slice Ar 0 cr) k 0 false) F z (w6.setCell ⟨N9, 13, none⟩ (.slice none 0 0))) := by
     have hn := HNZ.out
     have hI := HI6.out
     exact ⟨hI.bel.setCell (p := ⟨N9, 13, none⟩) (show w.heap.size ≤ N9 by omega) _, hI.sta.far (p := ⟨N9, 13, none⟩) (show w.heap.size + 1 ≠ N9 by omega) _, hI.box.far (p := ⟨N9, 13, none⟩) (show F ≠ N9 by omega) _, hI.th.far (p := ⟨N9, 13, none⟩) (show z.T ≠ N9 by omega) _, hI.hF⟩
    clear c13 f13 nl HI6 HL6
    generalize w6.setCell ⟨N9, 13, none⟩ (.slice none 0 0) = w7 at *
    have hb8 := (Below.refl w7.heap.size w7).drew
    have HI8 := Lib.hid (HI7.out.later hb8)
    have hld7 : (loadVar 40 ⟨N9, 0, none⟩).run Try.prog w7.drew = .ok (.agg thO1) w7.drew := th_loadL2 (x := x1) (v := .slice none 0 0) (HL7.out.below hb8 HL7.out.lt)
    have b2 := (HI8.out.box.cell 2).trans (show _ = some (Value.slice (some ⟨z.T, 0, none⟩) 1 1) from rfl)
    have N7l := (HL7.out.below hb8 HL7.out.lt).lt
    have Fl := HI8.out.box.lt
    have Tl := HI8.out.th.lt
    clear hb8 HI7 HL7
    refine wp_region_still_tail 7 (by kernel_rfl) (by kernel_rfl) ?_
    simp only [List.take_succ_cons, List.take_zero, List.drop_succ_cons, List.drop_zero]
    change wpStill _ _ w7.drew (fun a' => wpList _ _ _ _ a' w7.drew) _ _
    generalize w7.drew = w8 at *
    iterate 5 still_step
    refine wpStill_step (fun K hK => ?_)
    rw [if_pos (by kernel_rfl)]
    refine still_loadM _ _ rfl _ _ rfl _ hld7 (hK _ ?_)
    clear hK K
    still_step
    refine wpStill_nil ?_
    clear b2 hld7
    refine wpList_store_row rfl 40 _ _ rfl z.T thO1 rfl rfl 40 thZ2 HI8.out.th infoTh2 rfl thO1_one ?_
    have HI9 : Hid (Ld2S w (stC (.slice (some ⟨T8, o8, none⟩) 1 ct) (.slice Ar 0 cr) k 0 false) F z (w8.setRow z.T thO1)) := by
     have k9 := kept_row2 (w := w8) (g := z.T) thO1
     have hI := HI8.out
     refine ⟨hI.bel.trans (k9.below hI.bel.size (fun r hr (e : r = z.T) => by have := hI.hF; omega)), hI.sta.kept k9 (fun (e : w.heap.size + 1 = z.T) => by have := hI.hF; omega), hI.box.kept k9 (fun (e : F = z.T) => ?_), hI.hF.1⟩
     have h1 := hI.box
     rw [e] at h1
     exact absurd (h1.same hI.th).1 (by decide)
    clear HI8 N7l Fl Tl
    generalize w8.setRow z.T thO1 = w9 at *
    go_wp2
    go_roundw
    case rel => exact .inr ⟨by go_num, HI9⟩
    case measure => simp [intOf]
   ·have HST3 : Hid (∀ x L q, ThS wr F 5 6 7 (.int .u64 (k : Int)) (.int .u64 0) (.bool false) 11 14 17 x L q → Lies q (w.heap.size + 1) 26 (stC (.slice At 1 ct) (.slice Ar 0 cr) k 0 false) ∧ ∃ cs, Lies q F 86 cs ∧ cs.size = 8) := fun x L q hq => by
     obtain ⟨cs, h1, h2⟩ := ths_box hq HJ.out.box
     exact ⟨HJ.out.sta.kept (ths_kept hq) (fun (e : w.heap.size + 1 = F) => by have := HJ.out.hF; omega), cs, h1, h2⟩
    go_upto_region 25 with (fail)
    refine wp_region_relyx (ThS wr F 5 6 7 (.int .u64 (k : Int)) (.int .u64 0) (.bool false) 11 14 17) (bfV [.eq (.pointer (some ⟨F, 0, none⟩)), .eq (.pointer (some ⟨F, 0, none⟩)), .eq (.pointer (some ⟨F, 0, none⟩)), .eq (.pointer (some ⟨w.heap.size + 1, 2, none⟩)), .eq (.int .u64 (k : Int)), .eq (.pointer (some ⟨w.heap.size + 1, 3, none⟩)), .eq (.int .u64 0), .eq (.pointer (some ⟨w.heap.size + 1, 4, none⟩)), .eq (.bool false), .eq (.pointer (some ⟨F, 0, none⟩)), .eq (.pointer (some ⟨F, 5, none⟩)), .any, .eq (.pointer (some ⟨F, 0, none⟩)), .eq (.pointer (some ⟨F, 6, none⟩)), .any, .eq (.pointer (some ⟨F, 0, none⟩)), .eq (.pointer (some ⟨F, 7, none⟩)), .any]) [some 119, some 120, some 121, some 122, some 123, some 124, some 125, some 126, some 127, some 128, some 129, none, some 130, some 131, none, some 132, some 133, none] [[], [], [], [], [3], [], [5], [], [7], [0], [9], [10, 4], [1], [12], [13, 6], [2], [15], [16, 8]] [[], [11], [11, 14], [], [3], [11], [5, 11], [11, 14], [7, 11, 14], [0, 3, 11], [0, 3, 9], [3, 4, 9, 10], [0, 1, 3, 4, 5, 9, 10, 11, 14], [0, 1, 3, 4, 5, 9, 10, 11, 12], [0, 3, 4, 5, 6, 9, 10, 11, 12, 13], [0, 1, 2, 3, 4, 5, 6, 7, 9, 10, 11, 12, 13, 14], [0, 1, 2, 3, 4, 5, 6, 7, 9, 10, 11, 12, 13, 14, 15], [0, 1, 3, 4, 5, 6, 7, 8, 9, 10, 11, 12, 13, 14, 15, 16]] [[1, 2, 3, 4, 5, 6, 7, 8], [0, 2, 3, 4, 5, 6, 7, 8, 9, 10], [0, 1, 3, 4, 5, 6, 7, 8, 9, 10, 12, 13], [0, 1, 2, 5, 6, 7, 8], [0, 1, 2, 5, 6, 7, 8], [0, 1, 2, 3, 4, 7, 8, 9, 10], [0, 1, 2, 3, 4, 7, 8, 9, 10], [0, 1, 2, 3, 4, 5, 6, 9, 10, 12, 13], [0, 1, 2, 3, 4, 5, 6, 9, 10, 12, 13], [1, 2, 4, 5, 6, 7, 8], [1, 2, 4, 5, 6, 7, 8], [1, 2, 5, 6, 7, 8], [2, 6, 7, 8], [2, 6, 7, 8], [2, 7, 8], [8, 17], [8], []] [0, 1, 2, 3, 4, 5, 6, 7, 8, 9, 10, 11, 12, 13, 14, 15, 16, 17] 18 (by kernel_rfl) (by kernel_rfl) (by kernel_rfl) (by kernel_rfl) ?rS (fun j h1 h2 => absurd (Nat.lt_of_lt_of_le h1 (Nat.le_trans (by decide) h2)) (Nat.lt_irrefl _)) ?rT ?rE
    case rS => exact ths_start
    case rT =>
     refine RelyStepsX.cons (RelyStepX.mk [] [1, 2, 3, 4, 5, 6, 7, 8] rfl rfl rfl (fun xv Lv wS hS hL hLd hV bq hb K hK => ?_)) ?_
     ·clear hV
      simp only [putsOf, List.foldl_cons, List.foldl_nil, List.getD_cons_zero, List.getD_cons_succ, List.getD_nil, cond_true, cond_false, Act.put, List.setIfInBounds_toArray, List.set_cons_zero, List.set_cons_succ] at hb
      subst hb
      rw [if_pos (by rfl)]
      go_wp2_with fail
      exact hK.out _ _ ⟨_, rfl, ths_op (i := 0) rfl hS, rfl, AllPX.same _⟩
     refine RelyStepsX.cons (RelyStepX.mk [] [0, 2, 3, 4, 5, 6, 7, 8, 9, 10] rfl rfl rfl (fun xv Lv wS hS hL hLd hV bq hb K hK => ?_)) ?_
     ·clear hV
      simp only [putsOf, List.foldl_cons, List.foldl_nil, List.getD_cons_zero, List.getD_cons_succ, List.getD_nil, cond_true, cond_false, Act.put, List.setIfInBounds_toArray, List.set_cons_zero, List.set_cons_succ] at hb
      subst hb
      rw [if_pos (by rfl)]
      go_wp2_with fail
      exact hK.out _ _ ⟨_, rfl, ths_op (i := 1) rfl hS, rfl, AllPX.same _⟩
     refine RelyStepsX.cons (RelyStepX.mk [] [0, 1, 3, 4, 5, 6, 7, 8, 9, 10, 12, 13] rfl rfl rfl (fun xv Lv wS hS hL hLd hV bq hb K hK => ?_)) ?_
     ·clear hV
      simp only [putsOf, List.foldl_cons, List.foldl_nil, List.getD_cons_zero, List.getD_cons_succ, List.getD_nil, cond_true, cond_false, Act.put, List.setIfInBounds_toArray, List.set_cons_zero, List.set_cons_succ] at hb
      subst hb
      rw [if_pos (by rfl)]
      go_wp2_with fail
      exact hK.out _ _ ⟨_, rfl, ths_op (i := 2) rfl hS, rfl, AllPX.same _⟩
     refine RelyStepsX.cons (RelyStepX.mk [] [0, 1, 2, 5, 6, 7, 8] rfl rfl rfl (fun xv Lv wS hS hL hLd hV bq hb K hK => ?_)) ?_
     ·clear hV
      simp only [putsOf, List.foldl_cons, List.foldl_nil, List.getD_cons_zero, List.getD_cons_succ, List.getD_nil, cond_true, cond_false, Act.put, List.setIfInBounds_toArray, List.set_cons_zero, List.set_cons_succ] at hb
      subst hb
      rw [if_pos (by rfl)]
      (obtain ⟨q1, _⟩ := HST3.out _ _ _ hS; have q2 := q1.lt)
      go_wp2_with fail
      exact hK.out _ _ ⟨_, rfl, ths_op (i := 3) rfl hS, rfl, AllPX.same _⟩
     refine RelyStepsX.cons (RelyStepX.mk [3] [0, 1, 2, 5, 6, 7, 8] rfl rfl rfl (fun xv Lv wS hS hL hLd hV bq hb K hK => ?_)) ?_
     ·obtain ⟨h3, _⟩ := hV
      have h3 : xv 3 = _ := h3
      simp only [putsOf, List.foldl_cons, List.foldl_nil, List.getD_cons_zero, List.getD_cons_succ, List.getD_nil, cond_true, cond_false, Act.put, List.setIfInBounds_toArray, List.set_cons_zero, List.set_cons_succ, h3] at hb
      clear h3
      subst hb
      rw [if_pos (by rfl)]
      (obtain ⟨q1, _⟩ := HST3.out _ _ _ hS; have q2 := q1.lt; have q3 := (q1.cell 2).trans (show _ = some (Value.int .u64 (k : Int)) from rfl))
      go_wp2_with fail
      exact hK.out _ _ ⟨_, rfl, ths_op (i := 4) rfl hS, rfl, AllPX.same _⟩
     refine RelyStepsX.cons (RelyStepX.mk [] [0, 1, 2, 3, 4, 7, 8, 9, 10] rfl rfl rfl (fun xv Lv wS hS hL hLd hV bq hb K hK => ?_)) ?_
     ·clear hV
      simp only [putsOf, List.foldl_cons, List.foldl_nil, List.getD_cons_zero, List.getD_cons_succ, List.getD_nil, cond_true, cond_false, Act.put, List.setIfInBounds_toArray, List.set_cons_zero, List.set_cons_succ] at hb
      subst hb
      rw [if_pos (by rfl)]
      (obtain ⟨q1, _⟩ := HST3.out _ _ _ hS; have q2 := q1.lt)
      go_wp2_with fail
      exact hK.out _ _ ⟨_, rfl, ths_op (i := 5) rfl hS, rfl, AllPX.same _⟩
     refine RelyStepsX.cons (RelyStepX.mk [5] [0, 1, 2, 3, 4, 7, 8, 9, 10] rfl rfl rfl (fun xv Lv wS hS hL hLd hV bq hb K hK => ?_)) ?_
     ·obtain ⟨h5, _⟩ := hV
      have h5 : xv 5 = _ := h5
      simp only [putsOf, List.foldl_cons, List.foldl_nil, List.getD_cons_zero, List.getD_cons_succ, List.getD_nil, cond_true, cond_false, Act.put, List.setIfInBounds_toArray, List.set_cons_zero, List.set_cons_succ, h5] at hb
      clear h5
      subst hb
      rw [if_pos (by rfl)]
      (obtain ⟨q1, _⟩ := HST3.out _ _ _ hS; have q2 := q1.lt; have q3 := (q1.cell 3).trans (show _ = some (Value.int .u64 0) from rfl))
      go_wp2_with fail
      exact hK.out _ _ ⟨_, rfl, ths_op (i := 6) rfl hS, rfl, AllPX.same _⟩
     refine RelyStepsX.cons (RelyStepX.mk [] [0, 1, 2, 3, 4, 5, 6, 9, 10, 12, 13] rfl rfl rfl (fun xv Lv wS hS hL hLd hV bq hb K hK => ?_)) ?_
     ·clear hV
      simp only [putsOf, List.foldl_cons, List.foldl_nil, List.getD_cons_zero, List.getD_cons_succ, List.getD_nil, cond_true, cond_false, Act.put, List.setIfInBounds_toArray, List.set_cons_zero, List.set_cons_succ] at hb
      subst hb
      rw [if_pos (by rfl)]
      (obtain ⟨q1, _⟩ := HST3.out _ _ _ hS; have q2 := q1.lt)
      go_wp2_with fail
      exact hK.out _ _ ⟨_, rfl, ths_op (i := 7) rfl hS, rfl, AllPX.same _⟩
     refine RelyStepsX.cons (RelyStepX.mk [7] [0, 1, 2, 3, 4, 5, 6, 9, 10, 12, 13] rfl rfl rfl (fun xv Lv wS hS hL hLd hV bq hb K hK => ?_)) ?_
     ·obtain ⟨h7, _⟩ := hV
      have h7 : xv 7 = _ := h7
      simp only [putsOf, List.foldl_cons, List.foldl_nil, List.getD_cons_zero, List.getD_cons_succ, List.getD_nil, cond_true, cond_false, Act.put, List.setIfInBounds_toArray, List.set_cons_zero, List.set_cons_succ, h7] at hb
      clear h7
      subst hb
      rw [if_pos (by rfl)]
      (obtain ⟨q1, _⟩ := HST3.out _ _ _ hS; have q2 := q1.lt; have q3 := (q1.cell 4).trans (show _ = some (Value.bool false) from rfl))
      go_wp2_with fail
      exact hK.out _ _ ⟨_, rfl, ths_op (i := 8) rfl hS, rfl, AllPX.same _⟩
     refine RelyStepsX.cons (RelyStepX.mk [0] [1, 2, 4, 5, 6, 7, 8] rfl rfl rfl (fun xv Lv wS hS hL hLd hV bq hb K hK => ?_)) ?_
     ·obtain ⟨h0, _⟩ := hV
      have h0 : xv 0 = _ := h0
      simp only [putsOf, List.foldl_cons, List.foldl_nil, List.getD_cons_zero, List.getD_cons_succ, List.getD_nil, cond_true, cond_false, Act.put, List.setIfInBounds_toArray, List.set_cons_zero, List.set_cons_succ, h0] at hb
      clear h0
      subst hb
      rw [if_pos (by rfl)]
      (obtain ⟨_, cs5, q1, _⟩ := HST3.out _ _ _ hS; have q2 := q1.lt)
      go_wp2_with fail
      exact hK.out _ _ ⟨_, rfl, ths_op (i := 9) rfl hS, rfl, AllPX.same _⟩
     refine RelyStepsX.cons (RelyStepX.mk [9] [1, 2, 4, 5, 6, 7, 8] rfl rfl rfl (fun xv Lv wS hS hL hLd hV bq hb K hK => ?_)) ?_
     ·obtain ⟨h9, _⟩ := hV
      have h9 : xv 9 = _ := h9
      simp only [putsOf, List.foldl_cons, List.foldl_nil, List.getD_cons_zero, List.getD_cons_succ, List.getD_nil, cond_true, cond_false, Act.put, List.setIfInBounds_toArray, List.set_cons_zero, List.set_cons_succ, h9] at hb
      clear h9
      subst hb
      rw [if_pos (by rfl)]
      go_wp2_with fail
      exact hK.out _ _ ⟨_, rfl, ths_op (i := 10) rfl hS, rfl, AllPX.same _⟩
     refine RelyStepsX.cons (RelyStepX.mk [10, 4] [1, 2, 5, 6, 7, 8] rfl rfl rfl (fun xv Lv wS hS hL hLd hV bq hb K hK => ?_)) ?_
     ·obtain ⟨h10, h4, _⟩ := hV
      have h10 : xv 10 = _ := h10
      have h4 : xv 4 = _ := h4
      simp only [putsOf, List.foldl_cons, List.foldl_nil, List.getD_cons_zero, List.getD_cons_succ, List.getD_nil, cond_true, cond_false, Act.put, List.setIfInBounds_toArray, List.set_cons_zero, List.set_cons_succ, h10, h4] at hb
      clear h10
      clear h4
      subst hb
      rw [if_pos (by rfl)]
      obtain ⟨_, cs5, q1, q3⟩ := HST3.out _ _ _ hS
      have q2 := q1.lt
      have q4 := (q1.cell 5).trans (Array.getElem?_eq_getElem (by omega))
      have q5 := q1.free 5
      have HSS := Lib.hid hS
      clear hS q1
      go_wp2_with fail
      exact hK.out _ _ ⟨undef, rfl, ths_1 HSS.out rfl, trivial, AllPX.of _ (fun j hj _ h => bfV_lit (by rfl) hj h)⟩
     refine RelyStepsX.cons (RelyStepX.mk [1] [2, 6, 7, 8] rfl rfl rfl (fun xv Lv wS hS hL hLd hV bq hb K hK => ?_)) ?_
     ·obtain ⟨h1, _⟩ := hV
      have h1 : xv 1 = _ := h1
      simp only [putsOf, List.foldl_cons, List.foldl_nil, List.getD_cons_zero, List.getD_cons_succ, List.getD_nil, cond_true, cond_false, Act.put, List.setIfInBounds_toArray, List.set_cons_zero, List.set_cons_succ, h1] at hb
      clear h1
      subst hb
      rw [if_pos (by rfl)]
      (obtain ⟨_, cs5, q1, _⟩ := HST3.out _ _ _ hS; have q2 := q1.lt)
      go_wp2_with fail
      exact hK.out _ _ ⟨_, rfl, ths_op (i := 12) rfl hS, rfl, AllPX.same _⟩
     refine RelyStepsX.cons (RelyStepX.mk [12] [2, 6, 7, 8] rfl rfl rfl (fun xv Lv wS hS hL hLd hV bq hb K hK => ?_)) ?_
     ·obtain ⟨h12, _⟩ := hV
      have h12 : xv 12 = _ := h12
      simp only [putsOf, List.foldl_cons, List.foldl_nil, List.getD_cons_zero, List.getD_cons_succ, List.getD_nil, cond_true, cond_false, Act.put, List.setIfInBounds_toArray, List.set_cons_zero, List.set_cons_succ, h12] at hb
      clear h12
      subst hb
      rw [if_pos (by rfl)]
      go_wp2_with fail
      exact hK.out _ _ ⟨_, rfl, ths_op (i := 13) rfl hS, rfl, AllPX.same _⟩
     refine RelyStepsX.cons (RelyStepX.mk [13, 6] [2, 7, 8] rfl rfl rfl (fun xv Lv wS hS hL hLd hV bq hb K hK => ?_)) ?_
     ·obtain ⟨h13, h6, _⟩ := hV
      have h13 : xv 13 = _ := h13
      have h6 : xv 6 = _ := h6
      simp only [putsOf, List.foldl_cons, List.foldl_nil, List.getD_cons_zero, List.getD_cons_succ, List.getD_nil, cond_true, cond_false, Act.put, List.setIfInBounds_toArray, List.set_cons_zero, List.set_cons_succ, h13, h6] at hb
      clear h13
      clear h6
      subst hb
      rw [if_pos (by rfl)]
      obtain ⟨_, cs5, q1, q3⟩ := HST3.out _ _ _ hS
      have q2 := q1.lt
      have q4 := (q1.cell 6).trans (Array.getElem?_eq_getElem (by omega))
      have q5 := q1.free 6
      have HSS := Lib.hid hS
      clear hS q1
      go_wp2_with fail
      exact hK.out _ _ ⟨undef, rfl, ths_2 HSS.out rfl (hLd 11 (by decide +kernel)), trivial, AllPX.of _ (fun j hj _ h => bfV_lit (by rfl) hj h)⟩
     refine RelyStepsX.cons (RelyStepX.mk [2] [8, 17] rfl rfl rfl (fun xv Lv wS hS hL hLd hV bq hb K hK => ?_)) ?_
     ·obtain ⟨h2, _⟩ := hV
      have h2 : xv 2 = _ := h2
      simp only [putsOf, List.foldl_cons, List.foldl_nil, List.getD_cons_zero, List.getD_cons_succ, List.getD_nil, cond_true, cond_false, Act.put, List.setIfInBounds_toArray, List.set_cons_zero, List.set_cons_succ, h2] at hb
      clear h2
      subst hb
      rw [if_pos (by rfl)]
      (obtain ⟨_, cs5, q1, _⟩ := HST3.out _ _ _ hS; have q2 := q1.lt)
      go_wp2_with fail
      exact hK.out _ _ ⟨_, rfl, ths_op (i := 15) rfl hS, rfl, AllPX.same _⟩
     refine RelyStepsX.cons (RelyStepX.mk [15] [8] rfl rfl rfl (fun xv Lv wS hS hL hLd hV bq hb K hK => ?_)) ?_
     ·obtain ⟨h15, _⟩ := hV
      have h15 : xv 15 = _ := h15
      simp only [putsOf, List.foldl_cons, List.foldl_nil, List.getD_cons_zero, List.getD_cons_succ, List.getD_nil, cond_true, cond_false, Act.put, List.setIfInBounds_toArray, List.set_cons_zero, List.set_cons_succ, h15] at hb
      clear h15
      subst hb
      rw [if_pos (by rfl)]
      go_wp2_with fail
      exact hK.out _ _ ⟨_, rfl, ths_op (i := 16) rfl hS, rfl, AllPX.same _⟩
     refine RelyStepsX.cons (RelyStepX.mk [16, 8] [] rfl rfl rfl (fun xv Lv wS hS hL hLd hV bq hb K hK => ?_)) ?_
     ·obtain ⟨h16, h8, _⟩ := hV
      have h16 : xv 16 = _ := h16
      have h8 : xv 8 = _ := h8
      simp only [putsOf, List.foldl_cons, List.foldl_nil, List.getD_cons_zero, List.getD_cons_succ, List.getD_nil, cond_true, cond_false, Act.put, List.setIfInBounds_toArray, List.set_cons_zero, List.set_cons_succ, h16, h8] at hb
      clear h16
      clear h8
      subst hb
      rw [if_pos (by rfl)]
      obtain ⟨_, cs5, q1, q3⟩ := HST3.out _ _ _ hS
      have q2 := q1.lt
      have q4 := (q1.cell 7).trans (Array.getElem?_eq_getElem (by omega))
      have q5 := q1.free 7
      have HSS := Lib.hid hS
      clear hS q1
      go_wp2_with fail
      exact hK.out _ _ ⟨undef, rfl, ths_3 HSS.out rfl (hLd 11 (by decide +kernel)) (hLd 14 (by decide +kernel)), trivial, AllPX.of _ (fun j hj _ h => bfV_lit (by rfl) hj h)⟩
     exact RelyStepsX.nil
    case rE =>
    intro xv Lv wE hS hLall hV
    have h17 := hV 17 (by decide) (by decide)
    clear hV
    simp only [putsOf, List.foldl_cons, List.foldl_nil, List.getD_cons_zero, List.getD_cons_succ, List.getD_nil, cond_true, cond_false, Act.put, List.setIfInBounds_toArray, List.set_cons_zero, List.set_cons_succ]
    generalize xv 0 = y0 at *
    generalize xv 1 = y1 at *
    generalize xv 2 = y2 at *
    generalize xv 3 = y3 at *
    generalize xv 4 = y4 at *
    generalize xv 5 = y5 at *
    generalize xv 6 = y6 at *
    generalize xv 7 = y7 at *
    generalize xv 8 = y8 at *
    generalize xv 9 = y9 at *
    generalize xv 10 = y10 at *
    generalize xv 11 = y11 at *
    generalize xv 12 = y12 at *
    generalize xv 13 = y13 at *
    generalize xv 14 = y14 at *
    generalize xv 15 = y15 at *
    generalize xv 16 = y16 at *
    generalize xv 17 = y17 at *
    have h3 := hS.2.2
    rw [if_pos (hLall 17 (by decide +kernel))] at h3
    have hk := ths_kept hS
    have hbx := (((HJ.out.box.drewN 1).put 5 (.int .u64 (k : Int))).put 6 (.int .u64 0)).put 7 (.bool false)
    rw [← h3] at hbx
    have HC5 : Hid (wE.cell? ⟨F, 5, none⟩ = some (.int .u64 (k : Int)) ∧ F < wE.heap.size) := ⟨(hbx.cell 5).trans rfl, hbx.lt⟩
    have HBE := Lib.hid (HJ.out.bel.trans (hk.below HJ.out.bel.size (fun k hk2 (e : k = F) => by have := HJ.out.hF; omega)))
    have HFH := Lib.hid HJ.out.hF
    clear hS hLall h3 hk hbx HJ HST3
    go_wp2
    go_ret2
    exact ⟨F, rfl, HC5.out.1, HC5.out.2, by have := HFH.out; omega, HBE.out⟩
def PhS (ks : List Nat) (pre : List (List Nat)) (P : Nat → (Nat → Value) → World → Prop) (x : Nat → Value) (L : Nat → Bool) (q : World) : Prop :=
 ∃ m, m ≤ ks.length ∧ (∀ j, j < ks.length → (L (ks.getD j 0) = true ↔ j < m)) ∧ (∀ j, j < m → ∀ k ∈ pre.getD j [], L k = true) ∧ P m x q
structure Pha (ks : List Nat) (P : Nat → (Nat → Value) → World → Prop) : Prop where
 bel : ∀ m x q q', Below q.heap.size q q' → P m x q → P m x q'
 val : ∀ m (x y : Nat → Value) q, (∀ k ∈ ks, x k = y k) → P m x q → P m y q
section
variable {ks : List Nat} {pre : List (List Nat)} {P : Nat → (Nat → Value) → World → Prop} {x : Nat → Value} {L : Nat → Bool} {q q' : World} {i m : Nat} {v : Value}
theorem getD_mem {l : List Nat} {j : Nat} (h : j < l.length) : l.getD j 0 ∈ l := by
 rw [List.getD_eq_getElem?_getD, List.getElem?_eq_getElem h]; exact List.getElem_mem h
theorem ph_start (h : P 0 x q) : PhS ks pre P x (fun _ => false) q := ⟨0, Nat.zero_le _, fun j _ => by simp, fun j h => absurd h (by omega), h⟩
theorem ph_more (hp : Pha ks P) (hi : ks.contains i = false) (h : PhS ks pre P x L q) (hb : Below q.heap.size q q') : PhS ks pre P (updX x i v) (updL L i) q' := by
 obtain ⟨m, h1, h2, h3, h4⟩ := h
 have hn : ∀ k ∈ ks, k ≠ i := fun k hk e => by subst e; rw [List.contains_iff_mem.2 hk] at hi; cases hi
 refine ⟨m, h1, fun j hj => ?_, fun j hj k hk => pupdL_le (h3 j hj k hk), hp.bel _ _ _ _ hb (hp.val _ x _ _ (fun k hk => (pupdX_ne (hn k hk)).symm) h4)⟩
 rw [pupdL_ne (hn _ (getD_mem hj))]; exact h2 j hj
theorem ph_op (hp : Pha ks P) (hi : ks.contains i = false) (h : PhS ks pre P x L q) : PhS ks pre P (updX x i v) (updL L i) q := ph_more hp hi h (Below.refl _ _)
theorem ph_before {K : Nat} (hK : (pre.getD K []).contains i = true) (h : PhS ks pre P x L q) (hL : L i = false) : ∃ m, m ≤ K ∧ P m x q := by
 obtain ⟨m, h1, h2, h3, h4⟩ := h
 refine ⟨m, ?_, h4⟩
 by_cases hm : K < m
 ·have := h3 K hm i (List.contains_iff_mem.1 hK)
  rw [hL] at this; cases this
 ·omega
theorem ph_get {j0 : Nat} (h : PhS ks pre P x L q) (hm : m < ks.length) (hL : L (ks.getD m 0) = false) (hprev : m = 0 ∨ (j0 + 1 = m ∧ L (ks.getD j0 0) = true)) : P m x q := by
 obtain ⟨n, h1, h2, h3, h4⟩ := h
 have a : ¬ m < n := fun hc => by rw [(h2 m hm).2 hc] at hL; cases hL
 have b : m ≤ n := by
  rcases hprev with rfl | ⟨e, hp⟩
  ·omega
  ·have := (h2 j0 (by omega)).1 hp; omega
 obtain rfl : m = n := by omega
 exact h4
theorem ph_put (hd : ks.Nodup) (h : PhS ks pre P x L q) (hm : m < ks.length) (hi : ks.getD m 0 = i) (hL : L i = false) (j0 : Nat) (hprev : m = 0 ∨ (j0 + 1 = m ∧ L (ks.getD j0 0) = true)) (hpre : ∀ k ∈ pre.getD m [], L k = true) (hn : P (m + 1) (updX x i v) q') : PhS ks pre P (updX x i v) (updL L i) q' := by
 obtain ⟨n, h1, h2, h3, h4⟩ := h
 have a : ¬ m < n := fun hc => by have := (h2 m hm).2 hc; rw [hi, hL] at this; cases this
 have b : m ≤ n := by
  rcases hprev with rfl | ⟨e, hp⟩
  ·omega
  ·have := (h2 j0 (by omega)).1 hp; omega
 obtain rfl : m = n := by omega
 refine ⟨m + 1, by omega, fun j hj => ?_, fun j hj k hk => ?_, hn⟩
 ·by_cases e : j = m
  ·subst e; rw [hi, pupdL_self]; simp
  ·have hne : ks.getD j 0 ≠ i := by
    rw [← hi]
    intro hc
    simp only [List.getD_eq_getElem?_getD, List.getElem?_eq_getElem hj, List.getElem?_eq_getElem hm, Option.getD_some] at hc
    exact e ((List.getElem_inj hd).1 hc)
   rw [pupdL_ne hne, h2 j hj]; omega
 ·by_cases e : j = m
  ·subst e; exact pupdL_le (hpre k hk)
  ·exact pupdL_le (h3 j (by omega) k hk)
theorem ph_end (h : PhS ks pre P x L q) (K : Nat) (hk : K + 1 = ks.length) (hL : L (ks.getD K 0) = true) : P (K + 1) x q := by
 obtain ⟨n, h1, h2, h3, h4⟩ := h
 have := (h2 K (by omega)).1 hL
 obtain rfl : n = K + 1 := by omega
 exact h4
end
theorem bfV_but {fs : List Bf} {j : Nat} {u : Value} {q q' : World} {l : List Nat} (n : Nat) (hl : l.all (fun j => j == n || (fs.getD j .any).lit) = true) (hj : j ∈ l) (hn : j ≠ n) (h : bfV fs j u q) : bfV fs j u q' := by
 have := List.all_eq_true.1 hl j hj
 rw [Bool.or_eq_true, beq_iff_eq] at this
 exact (fs.getD j .any).free (this.resolve_left hn) _ _ _ h
structure BxAt (w : World) (g R g3 : Nat) (s : ByteArray) (T : TypeId) (z cs : Array Value) (i : Nat) (f : Bool) (q : World) : Prop where
 kp : Kept (srcR g R) w q
 src : SrcAt q g R s i f
 res : Lies q w.heap.size T z
 box : Lies q g3 T cs
 lt : w.heap.size < g3
 h1 : T ≠ 78
 h2 : T ≠ 94
section
variable {w q q1 : World} {g R g3 i i2 : Nat} {s : ByteArray} {T : TypeId} {z cs : Array Value} {v : Value} {f f2 : Bool}
theorem BxAt.src1 (h : BxAt w g R g3 s T z cs i f q) (k : Kept (srcR g R) q q1) (hs : SrcAt q1 g R s i2 f2) : BxAt w g R g3 s T z cs i2 f2 q1 :=
 ⟨src_trans h.kp k, hs, lies_kept_src h.res h.src k h.h1 h.h2, lies_kept_src h.box h.src k h.h1 h.h2, h.lt, h.h1, h.h2⟩
theorem BxAt.later (h : BxAt w g R g3 s T z cs i f q) (k : Below q.heap.size q q1) : BxAt w g R g3 s T z cs i f q1 :=
 ⟨h.kp.trans (Kept.of_below k) (fun _ _ hf => hf.elim), h.src.kept (Kept.of_below k) (fun hf => hf) (fun hf => hf), h.res.below k h.res.lt, h.box.below k h.box.lt, h.lt, h.h1, h.h2⟩
theorem BxAt.grown {S : Nat → Prop} (h : BxAt w g R g3 s T z cs i f q) (k : Kept S q q1) (hS : ∀ r, S r → w.heap.size ≤ r) (hn : ∀ r t c, Lies q r t c → (t = T ∨ t = 78 ∨ t = 94) → ¬ S r) : BxAt w g R g3 s T z cs i f q1 :=
 ⟨h.kp.trans k (fun r hr e => absurd (hS r e) (by omega)), h.src.kept k (hn _ _ _ h.src.1 (.inr (.inl rfl))) (hn _ _ _ h.src.2.1 (.inr (.inr rfl))), h.res.kept k (hn _ _ _ h.res (.inl rfl)), h.box.kept k (hn _ _ _ h.box (.inl rfl)), h.lt, h.h1, h.h2⟩
theorem BxAt.put (h : BxAt w g R g3 s T z cs i f q) (j : Nat) (u : Value) : BxAt w g R g3 s T z (cs.setIfInBounds j u) i f (q.setCell ⟨g3, j, none⟩ u) := by
 have k := Kept.put q g3 j u
 refine ⟨h.kp.trans k (fun r hr (e : r = g3) => absurd hr (by have := h.lt; omega)), h.src.kept k (fun (e : g = g3) => ?_) (fun (e : R = g3) => ?_), h.res.kept k (fun (e : w.heap.size = g3) => by have := h.lt; omega), h.box.put j u, h.lt, h.h1, h.h2⟩
 ·subst e; exact absurd (h.src.1.same h.box).1 (Ne.symm h.h1)
 ·subst e; exact absurd (h.src.2.1.same h.box).1 (Ne.symm h.h2)
theorem BxAt.row (h : BxAt w g R g3 s T z cs i f q) (c2 : Array Value) : BxAt w g R g3 s T z c2 i f (q.setRow g3 c2) := by
 have k := kept_row2 (w := q) (g := g3) c2
 refine ⟨h.kp.trans k (fun r hr (e : r = g3) => absurd hr (by have := h.lt; omega)), h.src.kept k (fun (e : g = g3) => ?_) (fun (e : R = g3) => ?_), h.res.kept k (fun (e : w.heap.size = g3) => by have := h.lt; omega), lies_row2 h.box _, h.lt, h.h1, h.h2⟩
 ·subst e; exact absurd (h.src.1.same h.box).1 (Ne.symm h.h1)
 ·subst e; exact absurd (h.src.2.1.same h.box).1 (Ne.symm h.h2)
theorem BxAt.fin (h : BxAt w g R g3 s T z cs i f q) : Kept (srcR g R) w (q.setRow w.heap.size cs) ∧ SrcAt (q.setRow w.heap.size cs) g R s i f ∧ Lies (q.setRow w.heap.size cs) w.heap.size T cs ∧ Kept (oneRow w.heap.size) q (q.setRow w.heap.size cs) := by
 have k := kept_row2 (w := q) (g := w.heap.size) cs
 refine ⟨h.kp.trans k (fun r hr (e : r = w.heap.size) => absurd hr (by omega)), h.src.kept k (fun (e : g = w.heap.size) => ?_) (fun (e : R = w.heap.size) => ?_), lies_row2 h.res _, k⟩
 ·subst e; exact absurd (h.src.1.same h.res).1 (Ne.symm h.h1)
 ·subst e; exact absurd (h.src.2.1.same h.res).1 (Ne.symm h.h2)
end
def apP (N ia : Nat) (C : Value → Nat × Bool → World → Prop) (row : World → Prop) (row' : Value → World → Prop) (vt : Value) (pos : Nat → Nat × Bool) (m : Nat) (x : Nat → Value) (q : World) : Prop :=
 if m ≤ N then C vt (pos m) q ∧ row q else if m = N + 1 then C vt (pos N) q ∧ row' (x ia) q else C (x ia) (pos N) q ∧ row' (x ia) q
section
variable {N ia : Nat} {C : Value → Nat × Bool → World → Prop} {row : World → Prop} {row' : Value → World → Prop} {vt v : Value} {pos : Nat → Nat × Bool} {ks : List Nat} {pre : List (List Nat)} {x : Nat → Value} {L : Nat → Bool} {q q' : World} {i m : Nat}
theorem apP_pha (hk : ks.contains ia = true) (h1 : ∀ u p q q', Below q.heap.size q q' → C u p q → C u p q') (h2 : ∀ q q', Below q.heap.size q q' → row q → row q') (h3 : ∀ u q q', Below q.heap.size q q' → row' u q → row' u q') : Pha ks (apP N ia C row row' vt pos) := by
 refine ⟨fun m x q q' hb h => ?_, fun m x y q he h => ?_⟩
 ·unfold apP at h ⊢
  split
  ·rename_i e; rw [if_pos e] at h; exact ⟨h1 _ _ _ _ hb h.1, h2 _ _ hb h.2⟩
  rename_i e1; rw [if_neg e1] at h
  split
  ·rename_i e; rw [if_pos e] at h; exact ⟨h1 _ _ _ _ hb h.1, h3 _ _ _ hb h.2⟩
  rename_i e2; rw [if_neg e2] at h
  exact ⟨h1 _ _ _ _ hb h.1, h3 _ _ _ hb h.2⟩
 ·unfold apP at h ⊢
  rw [← he ia (List.contains_iff_mem.1 hk)]; exact h
theorem apP_low (hm : m ≤ N) (h : apP N ia C row row' vt pos m x q) : C vt (pos m) q ∧ row q := by unfold apP at h; rwa [if_pos hm] at h
theorem apP_mk (hm : m ≤ N) (h : C vt (pos m) q ∧ row q) : apP N ia C row row' vt pos m x q := by unfold apP; rwa [if_pos hm]
theorem apP_app (h : apP N ia C row row' vt pos (N + 1) x q) : C vt (pos N) q ∧ row' (x ia) q := by unfold apP at h; rwa [if_neg (by omega), if_pos rfl] at h
theorem apP_mkApp (h : C vt (pos N) q ∧ row' (x ia) q) : apP N ia C row row' vt pos (N + 1) x q := by unfold apP; rwa [if_neg (by omega), if_pos rfl]
theorem apP_end (h : apP N ia C row row' vt pos (N + 2) x q) : C (x ia) (pos N) q ∧ row' (x ia) q := by unfold apP at h; rwa [if_neg (by omega), if_neg (by omega)] at h
theorem apP_mkEnd (h : C (x ia) (pos N) q ∧ row' (x ia) q) : apP N ia C row row' vt pos (N + 1 + 1) x q := by unfold apP; rwa [if_neg (by omega), if_neg (by omega)]
theorem apP_vt (hm : m ≤ N + 1) (h : apP N ia C row row' vt pos m x q) : ∃ p, C vt p q := by
 unfold apP at h
 split at h
 ·exact ⟨_, h.1⟩
 ·rw [if_pos (by omega)] at h; exact ⟨_, h.1⟩
end
structure TrAt (w : World) (g R g3 : Nat) (s : ByteArray) (x : Th) (v : Value) (i : Nat) (f : Bool) (q : World) : Prop where
 kp : Kept (srcR g R) w q
 src : SrcAt q g R s i f
 res : Lies q w.heap.size 40 thZ2
 box : Lies q g3 40 (thC x v)
 lt : w.heap.size < g3
section
variable {w q q1 : World} {g R g3 i i2 : Nat} {s : ByteArray} {x x2 : Th} {v v2 : Value} {f f2 : Bool}
theorem TrAt.src1 (h : TrAt w g R g3 s x v i f q) (k : Kept (srcR g R) q q1) (hs : SrcAt q1 g R s i2 f2) : TrAt w g R g3 s x v i2 f2 q1 :=
 ⟨src_trans h.kp k, hs, lies_kept_src h.res h.src k (by decide) (by decide), lies_kept_src h.box h.src k (by decide) (by decide), h.lt⟩
theorem TrAt.put (h : TrAt w g R g3 s x v i f q) (j : Nat) (u : Value) (e : (thC x v).setIfInBounds j u = thC x2 v2) : TrAt w g R g3 s x2 v2 i f (q.setCell ⟨g3, j, none⟩ u) := by
 have k := Kept.put q g3 j u
 refine ⟨h.kp.trans k (fun r hr (e : r = g3) => absurd hr (by have := h.lt; omega)), h.src.kept k (fun (e : g = g3) => ?_) (fun (e : R = g3) => ?_), h.res.kept k (fun (e : w.heap.size = g3) => by have := h.lt; omega), ?_, h.lt⟩
 ·subst e; exact absurd (h.src.1.same h.box).1 (by decide)
 ·subst e; exact absurd (h.src.2.1.same h.box).1 (by decide)
 ·rw [← e]; exact h.box.put j u
theorem TrAt.row (h : TrAt w g R g3 s x v i f q) (x2 : Th) (v2 : Value) : TrAt w g R g3 s x2 v2 i f (q.setRow g3 (thC x2 v2)) := by
 have k := kept_row2 (w := q) (g := g3) (thC x2 v2)
 refine ⟨h.kp.trans k (fun r hr (e : r = g3) => absurd hr (by have := h.lt; omega)), h.src.kept k (fun (e : g = g3) => ?_) (fun (e : R = g3) => ?_), h.res.kept k (fun (e : w.heap.size = g3) => by have := h.lt; omega), lies_row2 h.box _, h.lt⟩
 ·subst e; exact absurd (h.src.1.same h.box).1 (by decide)
 ·subst e; exact absurd (h.src.2.1.same h.box).1 (by decide)
end
def regX (x : Th) (r : Nat → Nat) : Th := { x with r := r }
theorem andR_eq {α β : Type} (R : Rdr α) (Q : Rdr β) (s : ByteArray) (i : Nat) (f : Bool) : andR R Q s i f = (((R s i f).1, (Q s (R s i f).2.1 (R s i f).2.2).1), (Q s (R s i f).2.1 (R s i f).2.2).2) := rfl
theorem mapR_eq {α β : Type} (R : Rdr α) (h : α → β) (s : ByteArray) (i : Nat) (f : Bool) : mapR R h s i f = (h (R s i f).1, (R s i f).2) := rfl
set_option maxHeartbeats 8000000 in
set_option maxRecDepth 100000 in
theorem srcThread (g R : Nat) (s : ByteArray) (i : Nat) (f : Bool) (w : World) (h : SrcAt w g R s i f) (hs : s.size ≤ 1099511627776) : Calls Try.prog 43 #[.pointer (some ⟨g, 0, none⟩)] w fun e w' =>
  ∃ v, e = .returned (.agg (thC (rdT s i f).1 v)) ∧ OwL w' w.heap.size 24 1 (rdT s i f).1.sn.length (cells64 (rdT s i f).1.sn) v ∧ SrcAt w' g R s (rdT s i f).2.1 (rdT s i f).2.2 ∧ Kept (srcR g R) w w' := by
 obtain ⟨z1, e1⟩ : ∃ z, rdS 65535 s i f = z := ⟨_, rfl⟩
 obtain ⟨z2, e2⟩ : ∃ z, rdS 65535 s z1.2.1 z1.2.2 = z := ⟨_, rfl⟩
 obtain ⟨z3, e3⟩ : ∃ z, rdS 65535 s z2.2.1 z2.2.2 = z := ⟨_, rfl⟩
 obtain ⟨z4, e4⟩ : ∃ z, rdS 65535 s z3.2.1 z3.2.2 = z := ⟨_, rfl⟩
 obtain ⟨z5, e5⟩ : ∃ z, rdN s z4.2.1 z4.2.2 = z := ⟨_, rfl⟩
 obtain ⟨zl, el⟩ : ∃ z, rdL 65536 s (rdG 8 s z5.2.1 z5.2.2).2.1 (rdG 8 s z5.2.1 z5.2.2).2.2 = z := ⟨_, rfl⟩
 have HT : Hid (rdT s i f = (⟨(z1.1 : Nat), (z2.1 : Nat), (z3.1 : Nat), (z4.1 : Nat), z5.1, (rdG 8 s z5.2.1 z5.2.2).1, zl.1⟩, zl.2)) := by
  show rdT s i f = _
  unfold rdT
  simp only [mapR_eq, andR_eq, e1, e2, e3, e4, e5, el]
 have b0 : Below w.heap.size w (w.alloc (.cells thZ2 40)) := (Below.refl _ _).alloc (Nat.le_refl _) _
 have h0 : SrcAt (w.alloc (.cells thZ2 40)) g R s i f := h.kept (Kept.alloc noRow _ _) (fun hf => hf) (fun hf => hf)
 have l0 := Lies.made w 40 thZ2
 have hn0 : (w.alloc (.cells thZ2 40)).heap.size = w.heap.size + 1 := World.size_alloc ..
 have HL0 := Lib.hid l0
 have HK0 : Hid (Kept (srcR g R) w (w.alloc (.cells thZ2 40))) := Kept.alloc _ _ _
 have HC1 := Lib.hid (srcSm 65535 65535 rfl g R s i f _ h0 (by decide))
 have H0 := Lib.hid h0
 rw [e1] at HC1
 clear h h0 l0 b0 e1
 go_enter Try.func43, Try.ntmps43
 go_wp2_with fail
 generalize w.alloc (.cells thZ2 40) = w0 at *
 refine HC1.out.mono ?_
 rintro e w1 ⟨rfl, h1, k1⟩
 have HC2 := Lib.hid (srcSm 65535 65535 rfl g R s _ _ w1 h1 (by decide))
 rw [e2] at HC2
 have HK1 := Lib.hid (src_trans HK0.out k1)
 have HL1 := Lib.hid (lies_kept_src HL0.out H0.out k1 (by decide) (by decide))
 have H1 := Lib.hid h1
 clear HC1 H0 HL0 HK0 h1 k1 e2
 go_wp2_with fail
 refine HC2.out.mono ?_
 rintro e w2 ⟨rfl, h1, k1⟩
 have HC3 := Lib.hid (srcSm 65535 65535 rfl g R s _ _ w2 h1 (by decide))
 rw [e3] at HC3
 have HK2 := Lib.hid (src_trans HK1.out k1)
 have HL2 := Lib.hid (lies_kept_src HL1.out H1.out k1 (by decide) (by decide))
 have H2 := Lib.hid h1
 clear HC2 H1 HL1 HK1 h1 k1 e3
 go_wp2_with fail
 refine HC3.out.mono ?_
 rintro e w3 ⟨rfl, h1, k1⟩
 have HC4 := Lib.hid (srcSm 65535 65535 rfl g R s _ _ w3 h1 (by decide))
 rw [e4] at HC4
 have HK3 := Lib.hid (src_trans HK2.out k1)
 have HL3 := Lib.hid (lies_kept_src HL2.out H2.out k1 (by decide) (by decide))
 have H3 := Lib.hid h1
 clear HC3 H2 HL2 HK2 h1 k1 e4
 go_wp2_with fail
 refine HC4.out.mono ?_
 rintro e w4 ⟨rfl, h1, k1⟩
 have HC5 := Lib.hid (srcNumber g R s _ _ w4 h1)
 rw [e5] at HC5
 have HK4 := Lib.hid (src_trans HK3.out k1)
 have HL4 := Lib.hid (lies_kept_src HL3.out H3.out k1 (by decide) (by decide))
 have H4 := Lib.hid h1
 clear HC4 H3 HL3 HK3 h1 k1 e5
 go_wp2_with fail
 refine HC5.out.mono ?_
 rintro e w5 ⟨rfl, h1, k1⟩
 have HK5 := Lib.hid (src_trans HK4.out k1)
 have HL5 := Lib.hid (lies_kept_src HL4.out H4.out k1 (by decide) (by decide))
 have H5 := Lib.hid h1
 clear HC5 H4 HL4 HK4 h1 k1
 obtain ⟨g3, hg3⟩ : ∃ n, w5.heap.size = n := ⟨_, rfl⟩
 have hlt3 : w.heap.size < g3 := by rw [← hg3]; exact HL5.out.lt
 have LB : Hid (Lies (w5.alloc (.cells thZ2 40)) g3 40 thZ2) := by rw [← hg3]; exact Lies.made w5 40 thZ2
 have HI0 : Hid (TrAt w g R g3 s ⟨0, 0, 0, 0, 0, fun _ => 0, []⟩ (.slice none 0 0) z5.2.1 z5.2.2 (w5.alloc (.cells thZ2 40))) :=
  ⟨HK5.out.trans (Kept.alloc noRow _ _) (fun _ _ hf => hf.elim), H5.out.kept (Kept.alloc noRow _ _) (fun hf => hf) (fun hf => hf), HL5.out.alloc _, LB.out, hlt3⟩
 have HSZ : Hid ((w5.alloc (.cells thZ2 40)).heap.size = g3 + 1) := by rw [← hg3]; exact World.size_alloc ..
 clear H5 HL5 HK5
 go_upto_region 2 with (first | refine wpList_store_row rfl 40 _ _ rfl g3 (thC ⟨(z1.1 : Nat), (z2.1 : Nat), (z3.1 : Nat), (z4.1 : Nat), z5.1, fun _ => 0, []⟩ (.slice none 0 0)) rfl rfl 40 thZ2 LB.out infoTh2 rfl (thC_one2 rfl) ?_)
 have HI := Lib.hid (HI0.out.row ⟨(z1.1 : Nat), (z2.1 : Nat), (z3.1 : Nat), (z4.1 : Nat), z5.1, fun _ => 0, []⟩ (.slice none 0 0))
 generalize (w5.alloc (.cells thZ2 40)).setRow g3 _ = w6 at *
 clear HI0 LB HSZ hg3
 generalize hx0 : Th.mk (z1.1 : Nat) (z2.1 : Nat) (z3.1 : Nat) (z4.1 : Nat) z5.1 (fun _ => 0) [] = x0 at *
 have HX : Hid (∀ r l, (⟨(z1.1 : Nat), (z2.1 : Nat), (z3.1 : Nat), (z4.1 : Nat), z5.1, r, l⟩ : Th) = { x0 with r := r, sn := l }) := by subst hx0; exact fun _ _ => rfl
 have hxe : x0 = regX x0 (rdG 0 s z5.2.1 z5.2.2).1 := by subst hx0; rfl
 rw [hxe] at HI
 have HI : Hid (TrAt w g R g3 s (regX x0 (rdG 0 s z5.2.1 z5.2.2).1) (.slice none 0 0) (rdG 0 s z5.2.1 z5.2.2).2.1 (rdG 0 s z5.2.1 z5.2.2).2.2 w6) := HI
 clear hx0 hxe
 go_wp2_with fail
 go_loopw [16] (fun u wr => ∃ k : Nat, k ≤ 8 ∧ u = .int .i64 k ∧ Hid (TrAt w g R g3 s (regX x0 (rdG k s z5.2.1 z5.2.2).1) (.slice none 0 0) (rdG k s z5.2.1 z5.2.2).2.1 (rdG k s z5.2.1 z5.2.2).2.2 wr)) (fun u _ => 8 - (intOf u).toNat)
 case atStart => exact ⟨0, by omega, rfl, HI⟩
 case round =>
  clear HI
  obtain ⟨k, hk, rfl, HI⟩ := hrel
  by_cases hlt : k < 8
  ·have hki : (k : Int) < 8 := by omega
   have HC := Lib.hid (srcNumber g R s _ _ wr HI.out.src)
   obtain ⟨zn, hzn⟩ : ∃ z, rdN s (rdG k s z5.2.1 z5.2.2).2.1 (rdG k s z5.2.1 z5.2.2).2.2 = z := ⟨_, rfl⟩
   rw [hzn] at HC
   have HG : Hid (rdG (k + 1) s z5.2.1 z5.2.2 = (fun j => if j = k then zn.1 else (rdG k s z5.2.1 z5.2.2).1 j, zn.2)) := by
    show rdG (k + 1) s z5.2.1 z5.2.2 = _
    rw [rdG]
    simp only [mapR_eq, andR_eq, hzn]
   clear hzn
   go_wp2_with fail
   refine HC.out.mono ?_
   rintro e w7 ⟨rfl, h7, k7⟩
   have HI7 := Lib.hid (HI.out.src1 k7 h7)
   have l7 := HI7.out.box.lt
   have f7 : w7.frozen? ⟨g3, 5 + k, none⟩ = false := HI7.out.box.free (5 + k)
   have c7 := (HI7.out.box.cell (5 + k)).trans (thC_reg _ _ hlt)
   clear HC HI h7 k7
   go_wp2_with fail
   refine ⟨⟨k + 1, by omega, by go_num, ?_⟩, by simp [intOf]; omega⟩
   rw [HG.out]
   exact HI7.out.put (5 + k) _ (thC_set _ _ hlt)
  ·obtain rfl : k = 8 := by omega
   have HC := Lib.hid (srcLs 65536 65536 rfl g R s _ _ wr HI.out.src (by decide) hs)
   rw [el] at HC
   have HT2 := HT.out
   rw [HX.out] at HT2
   have HT := Lib.hid HT2
   generalize rdG 8 s z5.2.1 z5.2.2 = zg at *
   clear el HT2 HX hk
   go_wp2_with fail
   refine HC.out.mono ?_
   rintro e w7 ⟨v, rfl, ho, h7, k7⟩
   have HI7 := Lib.hid (HI.out.src1 k7 h7)
   obtain ⟨Av, cv, rfl, _⟩ := own_form2 ho
   have l7 := HI7.out.box.lt
   have f7 : w7.frozen? ⟨g3, 13, none⟩ = false := HI7.out.box.free 13
   have c7 := (HI7.out.box.cell 13).trans (show _ = some (Value.slice none 0 0) from rfl)
   have HO := Lib.hid (owL_of (owns_mono (owns_put ho HI7.out.box (by decide) 13 (.slice Av zl.1.length cv)) HI.out.kp.size))
   clear HC HI h7 k7 ho
   go_upto_region 8 with (fail)
   have HI8 : Hid (TrAt w g R g3 s { regX x0 zg.1 with sn := zl.1 } (.slice Av zl.1.length cv) zl.2.1 zl.2.2 (w7.setCell ⟨g3, 13, none⟩ (.slice Av zl.1.length cv))) := HI7.out.put 13 _ rfl
   generalize w7.setCell ⟨g3, 13, none⟩ (.slice Av zl.1.length cv) = w8 at *
   clear HI7 l7 f7 c7
   have hld := th_loadL2 HI8.out.box
   have HI9 := Lib.hid (⟨HI8.out.kp.trans (kept_row2 (thC { regX x0 zg.1 with sn := zl.1 } (.slice Av zl.1.length cv))) (fun r hr (e : r = w.heap.size) => absurd hr (by omega)), HI8.out.src.kept (kept_row2 (g := w.heap.size) (thC { regX x0 zg.1 with sn := zl.1 } (.slice Av zl.1.length cv))) (fun (e : g = w.heap.size) => by subst e; exact absurd (HI8.out.src.1.same HI8.out.res).1 (by decide)) (fun (e : R = w.heap.size) => by subst e; exact absurd (HI8.out.src.2.1.same HI8.out.res).1 (by decide)), lies_row2 HI8.out.res _, OwL.kept HO.out (kept_row2 (thC { regX x0 zg.1 with sn := zl.1 } (.slice Av zl.1.length cv))) (fun r cur hl (e : r = w.heap.size) => by subst e; exact absurd (hl.same HI8.out.res).1 (by decide))⟩ : Kept (srcR g R) w (w8.setRow w.heap.size (thC { regX x0 zg.1 with sn := zl.1 } (.slice Av zl.1.length cv))) ∧ SrcAt (w8.setRow w.heap.size (thC { regX x0 zg.1 with sn := zl.1 } (.slice Av zl.1.length cv))) g R s zl.2.1 zl.2.2 ∧ Lies (w8.setRow w.heap.size (thC { regX x0 zg.1 with sn := zl.1 } (.slice Av zl.1.length cv))) w.heap.size 40 (thC { regX x0 zg.1 with sn := zl.1 } (.slice Av zl.1.length cv)) ∧ OwL (w8.setRow w.heap.size (thC { regX x0 zg.1 with sn := zl.1 } (.slice Av zl.1.length cv))) w.heap.size 24 1 zl.1.length (cells64 zl.1) (.slice Av zl.1.length cv))
   refine wp_region_lit ?_
   refine wpList_load_known rfl _ _ rfl g3 0 rfl _ hld ?_
   refine wpList_store_row rfl 40 _ _ rfl w.heap.size (thC { regX x0 zg.1 with sn := zl.1 } (.slice Av zl.1.length cv)) rfl rfl 40 thZ2 HI8.out.res infoTh2 rfl (thC_one2 rfl) ?_
   have hl9 := th_loadL2 HI9.out.2.2.1
   clear hld HO HI8
   generalize w8.setRow w.heap.size (thC { regX x0 zg.1 with sn := zl.1 } (.slice Av zl.1.length cv)) = w9 at *
   go_wp2_with fail
   refine bodyPost_ret (v := .agg (thC { regX x0 zg.1 with sn := zl.1 } (.slice Av zl.1.length cv))) (res_cell1 rfl rfl hl9) rfl ⟨.slice Av zl.1.length cv, ?_, ?_, ?_, HI9.out.1⟩
   ·rw [HT.out]; rfl
   ·rw [HT.out]; exact HI9.out.2.2.2
   ·rw [HT.out]; exact HI9.out.2.1
theorem repR_length {α : Type} (Q : Rdr α) : ∀ (n : Nat) (s : ByteArray) (i : Nat) (f : Bool), (repR Q n s i f).1.length = n
 | 0, _, _, _ => rfl
 | n + 1, s, i, f => by
  show ((repR Q n s i f).1 ++ [_]).length = n + 1
  rw [List.length_append, repR_length Q n s i f]; rfl
theorem repR_succ {α : Type} (Q : Rdr α) (n : Nat) (s : ByteArray) (i : Nat) (f : Bool) : repR Q (n + 1) s i f = ((repR Q n s i f).1 ++ [(Q s (repR Q n s i f).2.1 (repR Q n s i f).2.2).1], (Q s (repR Q n s i f).2.1 (repR Q n s i f).2.2).2) := rfl
theorem rowR_eq {α : Type} (m : Nat) (Q : Rdr α) (s : ByteArray) (i : Nat) (f : Bool) : rowR m Q s i f = repR Q (rdS m s i f).1 s (rdS m s i f).2.1 (rdS m s i f).2.2 := rfl
def rgCc (w : World) (g R g3 : Nat) (s : ByteArray) (tl : Nat) (hv : Value) (l : List Nat) (cl : Bool) (v : Value) (p : Nat × Bool) (q : World) : Prop :=
 BxAt w g R g3 s 54 rgZ2 (rgC2 tl hv cl v) p.1 p.2 q ∧ OwL q w.heap.size 24 1 l.length (cells64 l) hv
def slRow (B : Nat) (v : Value) (n : Nat) (l : List Sl) (q : World) : Prop := q.ownsRow B 64 3 v n (rowsOf slF l)
section
variable {w q q' : World} {g R g3 tl k i : Nat} {s : ByteArray} {hv vt v : Value} {l : List Nat} {cl : Bool} {sl : List Sl} {y : Sl} {p : Nat × Bool} {pos : Nat → Nat × Bool} {pre : List (List Nat)} {x : Nat → Value} {L : Nat → Bool}
theorem rgCc_later (hb : Below q.heap.size q q') (h : rgCc w g R g3 s tl hv l cl v p q) : rgCc w g R g3 s tl hv l cl v p q' := ⟨h.1.later hb, h.2.kept (Kept.of_below hb) (fun _ _ _ hf => hf)⟩
theorem rgCc_src {p2 : Nat × Bool} (h : rgCc w g R g3 s tl hv l cl v p q) (k : Kept (srcR g R) q q') (hs : SrcAt q' g R s p2.1 p2.2) : rgCc w g R g3 s tl hv l cl v p2 q' := by
 obtain ⟨h1, A, c, e, h2⟩ := h
 exact ⟨h1.src1 k hs, A, c, e, own_kept_src h2 h1.src k (by decide) (by decide)⟩
theorem slRow_later {B n : Nat} (hb : Below q.heap.size q q') (h : slRow B v n sl q) : slRow B v n sl q' := owns_kept h (Kept.of_below hb) (fun _ _ _ _ hf => hf)
theorem rgr_pha : Pha [3, 5, 7, 10, 12] (apP 3 10 (rgCc w g R g3 s tl hv l cl) (slRow w.heap.size vt k sl) (fun v => slRow w.heap.size v (k + 1) (sl ++ [y])) vt pos) :=
 apP_pha rfl (fun _ _ _ _ hb h => rgCc_later hb h) (fun _ _ hb h => slRow_later hb h) (fun _ _ _ hb h => slRow_later hb h)
theorem rgr_op (hi : [3, 5, 7, 10, 12].contains i = false) (h : PhS [3, 5, 7, 10, 12] pre (apP 3 10 (rgCc w g R g3 s tl hv l cl) (slRow w.heap.size vt k sl) (fun v => slRow w.heap.size v (k + 1) (sl ++ [y])) vt pos) x L q) :
  PhS [3, 5, 7, 10, 12] pre (apP 3 10 (rgCc w g R g3 s tl hv l cl) (slRow w.heap.size vt k sl) (fun v => slRow w.heap.size v (k + 1) (sl ++ [y])) vt pos) (updX x i v) (updL L i) q := ph_op rgr_pha hi h
theorem rgCc_app {n : Nat} (h : rgCc w g R g3 s tl hv l cl v p q) (hr : slRow w.heap.size vt n sl q) (k : Kept (fun k => vt.ownBlock = some k) q q') : rgCc w g R g3 s tl hv l cl v p q' :=
 ⟨h.1.grown k (fun r e => (own_lies2 hr e).1) (fun r t c hl ht e => by have := own_same2 hr hl e; subst this; rcases ht with ht | ht | ht <;> exact absurd ht (by decide)), h.2.kept k (fun r cur hl e => absurd (own_same2 hr hl e) (by decide))⟩
theorem rgCc_put {u : Value} (h : rgCc w g R g3 s tl hv l cl v p q) : rgCc w g R g3 s tl hv l cl u p (q.setCell ⟨g3, 3, none⟩ u) :=
 ⟨h.1.put 3 u, h.2.kept (Kept.put q g3 3 u) (fun r cur hl (e : r = g3) => by subst e; exact absurd (hl.same h.1.box).1 (by decide))⟩
end
set_option maxHeartbeats 8000000 in
set_option maxRecDepth 100000 in
theorem srcRing (g R : Nat) (s : ByteArray) (i : Nat) (f : Bool) (w : World) (h : SrcAt w g R s i f) (hs : s.size ≤ 1099511627776) : Calls Try.prog 44 #[.pointer (some ⟨g, 0, none⟩)] w fun e w' =>
  ∃ hv sv, e = .returned (.agg (rgC2 (rdR s i f).1.tl hv (rdR s i f).1.cl sv)) ∧ OwL w' w.heap.size 24 1 (rdR s i f).1.hs.length (cells64 (rdR s i f).1.hs) hv ∧ OwL w' w.heap.size 64 3 (rdR s i f).1.sl.length (rowsOf slF (rdR s i f).1.sl) sv ∧
   SrcAt w' g R s (rdR s i f).2.1 (rdR s i f).2.2 ∧ Kept (srcR g R) w w' := by
 obtain ⟨z1, e1⟩ : ∃ z, rdN s i f = z := ⟨_, rfl⟩
 obtain ⟨z2, e2⟩ : ∃ z, rdL 8 s z1.2.1 z1.2.2 = z := ⟨_, rfl⟩
 obtain ⟨z3, e3⟩ : ∃ z, rdB s z2.2.1 z2.2.2 = z := ⟨_, rfl⟩
 obtain ⟨zc, ec⟩ : ∃ z, rdS 64 s z3.2.1 z3.2.2 = z := ⟨_, rfl⟩
 have hzc : zc.1 ≤ 64 := by rw [← ec]; exact rdS_le _ _ _ _
 have HT : Hid (rdR s i f = (⟨z1.1, z2.1, z3.1, (repR rdSl zc.1 s zc.2.1 zc.2.2).1⟩, (repR rdSl zc.1 s zc.2.1 zc.2.2).2)) := by
  show rdR s i f = _
  unfold rdR
  simp only [mapR_eq, andR_eq, rowR_eq, e1, e2, e3, ec]
 have h0 : SrcAt (w.alloc (.cells rgZ2 54)) g R s i f := h.kept (Kept.alloc noRow _ _) (fun hf => hf) (fun hf => hf)
 have hn0 : (w.alloc (.cells rgZ2 54)).heap.size = w.heap.size + 1 := World.size_alloc ..
 have HL0 := Lib.hid (Lies.made w 54 rgZ2)
 have HK0 : Hid (Kept (srcR g R) w (w.alloc (.cells rgZ2 54))) := Kept.alloc _ _ _
 have HC1 := Lib.hid (srcNumber g R s i f _ h0)
 have H0 := Lib.hid h0
 rw [e1] at HC1
 clear h h0 e1
 go_enter Try.func44, Try.ntmps44
 go_wp2_with fail
 generalize w.alloc (.cells rgZ2 54) = w0 at *
 refine HC1.out.mono ?_
 rintro e w1 ⟨rfl, h1, k1⟩
 have HC2 := Lib.hid (srcLs 8 8 rfl g R s _ _ w1 h1 (by decide) hs)
 rw [e2] at HC2
 have HK1 := Lib.hid (src_trans HK0.out k1)
 have HL1 := Lib.hid (lies_kept_src HL0.out H0.out k1 (by decide) (by decide))
 have H1 := Lib.hid h1
 clear HC1 H0 HL0 HK0 h1 k1 e2
 go_wp2_with fail
 refine HC2.out.mono ?_
 rintro e w2 ⟨hv, rfl, ho, h1, k1⟩
 have HC3 := Lib.hid (srcTruth g R s _ _ w2 h1)
 rw [e3] at HC3
 have HK2 := Lib.hid (src_trans HK1.out k1)
 have HL2 := Lib.hid (lies_kept_src HL1.out H1.out k1 (by decide) (by decide))
 have HO2 := Lib.hid (owns_mono ho HK1.out.size)
 have H2 := Lib.hid h1
 obtain ⟨Ah, ch, rfl, _⟩ := own_form2 ho
 clear HC2 H1 HL1 HK1 h1 k1 e3 ho
 go_wp2_with fail
 refine HC3.out.mono ?_
 rintro e w3 ⟨rfl, h1, k1⟩
 have HK3 := Lib.hid (src_trans HK2.out k1)
 have HL3 := Lib.hid (lies_kept_src HL2.out H2.out k1 (by decide) (by decide))
 have HO3 := Lib.hid (own_kept_src HO2.out H2.out k1 (by decide) (by decide))
 have H3 := Lib.hid h1
 clear HC3 H2 HL2 HK2 h1 k1 HO2
 obtain ⟨g3, hg3⟩ : ∃ n, w3.heap.size = n := ⟨_, rfl⟩
 have hlt3 : w.heap.size < g3 := by rw [← hg3]; exact HL3.out.lt
 have LB : Hid (Lies (w3.alloc (.cells rgZ2 54)) g3 54 rgZ2) := by rw [← hg3]; exact Lies.made w3 54 rgZ2
 have HI0 : Hid (BxAt w g R g3 s 54 rgZ2 rgZ2 z3.2.1 z3.2.2 (w3.alloc (.cells rgZ2 54))) :=
  ⟨HK3.out.trans (Kept.alloc noRow _ _) (fun _ _ hf => hf.elim), H3.out.kept (Kept.alloc noRow _ _) (fun hf => hf) (fun hf => hf), HL3.out.alloc _, LB.out, hlt3, by decide, by decide⟩
 have HOA := Lib.hid (HO3.out.alloc (.cells rgZ2 54))
 clear H3 HL3 HK3 HO3
 go_upto_region 2 with (first | refine wpList_store_row rfl 54 _ _ rfl g3 (rgC2 z1.1 (.slice Ah z2.1.length ch) z3.1 (.slice none 0 0)) rfl rfl 54 rgZ2 LB.out infoRg2 rfl (rgC_one2 rfl rfl) ?_)
 have HI := Lib.hid (HI0.out.row (rgC2 z1.1 (.slice Ah z2.1.length ch) z3.1 (.slice none 0 0)))
 have HOB : Hid (OwL _ w.heap.size 24 1 z2.1.length (cells64 z2.1) (.slice Ah z2.1.length ch)) := OwL.kept (owL_of HOA.out) (kept_row2 (g := g3) (rgC2 z1.1 (.slice Ah z2.1.length ch) z3.1 (.slice none 0 0))) (fun r cur hl (e : r = g3) => by subst e; exact absurd (hl.same LB.out).1 (by decide))
 generalize (w3.alloc (.cells rgZ2 54)).setRow g3 _ = w4 at *
 clear HI0 LB hg3 HOA
 have HC := Lib.hid (srcSm 64 64 rfl g R s _ _ w4 HI.out.src (by decide))
 rw [ec] at HC
 clear ec
 go_wp2_with fail
 refine HC.out.mono ?_
 rintro e w5 ⟨rfl, h5, k5⟩
 have HI5 : Hid (rgCc w g R g3 s z1.1 (.slice Ah z2.1.length ch) z2.1 z3.1 (.slice none 0 0) zc.2 w5) := rgCc_src (p := z3.2) ⟨HI.out, HOB.out⟩ k5 h5
 clear HC HI HOB h5 k5
 go_wp2_with fail
 go_loopw [13] (fun u wr => ∃ k : Nat, k ≤ zc.1 ∧ u = .int .i64 k ∧ Hid (∃ vt, rgCc w g R g3 s z1.1 (.slice Ah z2.1.length ch) z2.1 z3.1 vt (repR rdSl k s zc.2.1 zc.2.2).2 wr ∧ slRow w.heap.size vt k (repR rdSl k s zc.2.1 zc.2.2).1 wr)) (fun u _ => zc.1 - (intOf u).toNat)
 case atStart => exact ⟨0, by omega, rfl, _, HI5.out, World.ownsRow_nil _ _ _ _⟩
 case round =>
  clear HI5
  obtain ⟨k, hk, rfl, HJ⟩ := hrel
  by_cases hlt : k < zc.1
  ·have hki : (k : Int) < (zc.1 : Int) := by omega
   have HLN : Hid ((repR rdSl k s zc.2.1 zc.2.2).1.length = k) := repR_length rdSl k s zc.2.1 zc.2.2
   have HSU := Lib.hid (repR_succ rdSl k s zc.2.1 zc.2.2)
   generalize repR rdSl k s zc.2.1 zc.2.2 = zk at *
   obtain ⟨a1, ea⟩ : ∃ z, rdN s zk.2.1 zk.2.2 = z := ⟨_, rfl⟩
   obtain ⟨a2, eb⟩ : ∃ z, rdN s a1.2.1 a1.2.2 = z := ⟨_, rfl⟩
   obtain ⟨a3, ed⟩ : ∃ z, rdS 65535 s a2.2.1 a2.2.2 = z := ⟨_, rfl⟩
   have HSL : Hid (rdSl s zk.2.1 zk.2.2 = (⟨a1.1, a2.1, (a3.1 : Nat)⟩, a3.2)) := by
    show rdSl s zk.2.1 zk.2.2 = _
    unfold rdSl
    simp only [mapR_eq, andR_eq, ea, eb, ed]
   obtain ⟨vt, hc, hr⟩ := HJ.out
   obtain ⟨At, ct, rfl, hct⟩ := own_form2 hr
   have HRC := Lib.hid hc
   have HRR := Lib.hid hr
   clear HJ hc hr
   go_wp2_with fail
   refine wp_region_relyx (PhS [3, 5, 7, 10, 12] [[], [], [], [], [0, 1, 2, 3, 4, 5, 6, 7, 8, 9, 10, 11]] (apP 3 10 (rgCc w g R g3 s z1.1 (.slice Ah z2.1.length ch) z2.1 z3.1) (slRow w.heap.size (.slice At k ct) k zk.1) (fun v => slRow w.heap.size v (k + 1) (zk.1 ++ [⟨a1.1, a2.1, (a3.1 : Nat)⟩])) (.slice At k ct) (fun m => if m = 0 then zk.2 else if m = 1 then a1.2 else if m = 2 then a2.2 else a3.2))) (bfV [.eq (.pointer (some ⟨g3, 3, none⟩)), .eq (.slice At k ct), .eq (.pointer (some ⟨g, 0, none⟩)), .eq (.int .u64 (a1.1 : Int)), .eq (.pointer (some ⟨g, 0, none⟩)), .eq (.int .u64 (a2.1 : Int)), .eq (.pointer (some ⟨g, 0, none⟩)), .eq (.int .i64 (a3.1 : Int)), .eq (.agg #[.int .u64 (a1.1 : Int), .int .u64 (a2.1 : Int), .int .i64 (a3.1 : Int)]), .of (fun v q => ∃ b, v = Value.slice (some ⟨b, 0, none⟩) 1 1 ∧ Lies q b 64 (slF ⟨a1.1, a2.1, (a3.1 : Nat)⟩).toArray) (fun _ _ _ hb ⟨b, h1, h2⟩ => ⟨b, h1, h2.below hb h2.lt⟩), .any, .eq (.pointer (some ⟨g3, 3, none⟩)), .any]) [some 15, some 16, some 17, some 18, some 19, some 20, some 21, some 22, some 23, some 24, some 25, some 26, none] [[], [0], [], [2], [], [4], [], [6], [3, 5, 7], [8], [1, 9], [], [11, 10]] [[], [0], [], [2], [], [2, 4], [], [4, 6], [2, 3, 4, 5, 6, 7], [3, 5, 7, 8], [0, 1, 6, 8, 9], [0, 1, 2, 3, 4, 5, 6, 7, 8, 9], [0, 1, 2, 3, 4, 5, 6, 7, 8, 9, 11]] [[2, 3, 4, 5, 6, 7, 8, 9, 10], [2, 3, 4, 5, 6, 7, 8, 9], [0, 1, 4, 5, 6, 7, 8, 9, 10], [0, 1, 4, 6, 7, 9, 10], [0, 1, 2, 3, 6, 7, 8, 9, 10], [0, 1, 3, 6, 9, 10], [0, 1, 2, 3, 4, 5, 8, 9, 10], [0, 1, 3, 5, 9], [0, 1, 10], [0, 1], [2], [10], [10]] [0, 1, 2, 3, 4, 5, 6, 7, 8, 9, 10, 11, 12] 13 (by kernel_rfl) (by kernel_rfl) (by kernel_rfl) (by kernel_rfl) ?rS (fun j h1 h2 => absurd (Nat.lt_of_lt_of_le h1 (Nat.le_trans (by decide) h2)) (Nat.lt_irrefl _)) ?rT ?rE
   case rS => exact ph_start (apP_mk (by decide) ⟨rgCc_later (below_drewN (Below.refl _ _) 1) HRC.out, slRow_later (below_drewN (Below.refl _ _) 1) HRR.out⟩)
   case rT =>
    refine RelyStepsX.cons (RelyStepX.mk [] [2, 3, 4, 5, 6, 7, 8, 9, 10] rfl rfl rfl (fun xv Lv wS hS hL hLd hV bq hb K hK => ?_)) ?_
    ·clear hV
     simp only [putsOf, List.foldl_cons, List.foldl_nil, List.getD_cons_zero, List.getD_cons_succ, List.getD_nil, cond_true, cond_false, Act.put, List.setIfInBounds_toArray, List.set_cons_zero, List.set_cons_succ] at hb
     subst hb
     rw [if_pos (by rfl)]
     go_wp2_with fail
     exact hK.out _ _ ⟨_, rfl, rgr_op (i := 0) rfl hS, rfl, AllPX.same _⟩
    refine RelyStepsX.cons (RelyStepX.mk [0] [2, 3, 4, 5, 6, 7, 8, 9] rfl rfl rfl (fun xv Lv wS hS hL hLd hV bq hb K hK => ?_)) ?_
    ·obtain ⟨h0, _⟩ := hV
     have h0 : xv 0 = _ := h0
     simp only [putsOf, List.foldl_cons, List.foldl_nil, List.getD_cons_zero, List.getD_cons_succ, List.getD_nil, cond_true, cond_false, Act.put, List.setIfInBounds_toArray, List.set_cons_zero, List.set_cons_succ, h0] at hb
     clear h0
     subst hb
     rw [if_pos (by rfl)]
     (obtain ⟨m9, hm9, hp9⟩ := ph_before (K := 4) rfl hS hL; obtain ⟨p9, hc9⟩ := apP_vt hm9 hp9; have c1 := (hc9.1.box.cell 3).trans (show _ = some (Value.slice At k ct) from rfl); have c2 := hc9.1.box.lt; clear hp9 hc9)
     go_wp2_with fail
     exact hK.out _ _ ⟨_, rfl, rgr_op (i := 1) rfl hS, rfl, AllPX.same _⟩
    refine RelyStepsX.cons (RelyStepX.mk [] [0, 1, 4, 5, 6, 7, 8, 9, 10] rfl rfl rfl (fun xv Lv wS hS hL hLd hV bq hb K hK => ?_)) ?_
    ·clear hV
     simp only [putsOf, List.foldl_cons, List.foldl_nil, List.getD_cons_zero, List.getD_cons_succ, List.getD_nil, cond_true, cond_false, Act.put, List.setIfInBounds_toArray, List.set_cons_zero, List.set_cons_succ] at hb
     subst hb
     rw [if_pos (by rfl)]
     go_wp2_with fail
     exact hK.out _ _ ⟨_, rfl, rgr_op (i := 2) rfl hS, rfl, AllPX.same _⟩
    refine RelyStepsX.cons (RelyStepX.mk [2] [0, 1, 4, 6, 7, 9, 10] rfl rfl rfl (fun xv Lv wS hS hL hLd hV bq hb K hK => ?_)) ?_
    ·obtain ⟨h2, _⟩ := hV
     have h2 : xv 2 = _ := h2
     simp only [putsOf, List.foldl_cons, List.foldl_nil, List.getD_cons_zero, List.getD_cons_succ, List.getD_nil, cond_true, cond_false, Act.put, List.setIfInBounds_toArray, List.set_cons_zero, List.set_cons_succ, h2] at hb
     clear h2
     subst hb
     rw [if_pos (by rfl)]
     have hp : rgCc w g R g3 s z1.1 (.slice Ah z2.1.length ch) z2.1 z3.1 (.slice At k ct) zk.2 wS ∧ slRow w.heap.size (.slice At k ct) k zk.1 wS := apP_low (by decide) (ph_get (m := 0) (j0 := 0) hS (by decide) hL (.inl rfl))
     have HP := Lib.hid hp
     have HSS := Lib.hid hS
     have HCN := Lib.hid (srcNumber g R s _ _ wS hp.1.1.src)
     rw [ea] at HCN
     clear hS hp
     go_wp2_with fail
     refine HCN.out.mono ?_
     rintro e w7 ⟨rfl, h7, k7⟩
     exact hK.out _ _ ⟨_, rfl, ph_put (by decide) HSS.out (m := 0) (by decide) rfl hL 0 (.inl rfl) (fun j hj => by cases hj) (apP_mk (by decide) ⟨rgCc_src (p2 := a1.2) HP.out.1 k7 h7, own_kept_src HP.out.2 HP.out.1.1.src k7 (by decide) (by decide)⟩), rfl, AllPX.of _ (fun j hj _ h => by
      by_cases e : j = 9
      ·subst e; obtain ⟨b, h1, h2⟩ := h; exact ⟨b, h1, lies_kept_src h2 HP.out.1.1.src k7 (by decide) (by decide)⟩
      ·exact bfV_but 9 (by rfl) hj e h)⟩
    refine RelyStepsX.cons (RelyStepX.mk [] [0, 1, 2, 3, 6, 7, 8, 9, 10] rfl rfl rfl (fun xv Lv wS hS hL hLd hV bq hb K hK => ?_)) ?_
    ·clear hV
     simp only [putsOf, List.foldl_cons, List.foldl_nil, List.getD_cons_zero, List.getD_cons_succ, List.getD_nil, cond_true, cond_false, Act.put, List.setIfInBounds_toArray, List.set_cons_zero, List.set_cons_succ] at hb
     subst hb
     rw [if_pos (by rfl)]
     go_wp2_with fail
     exact hK.out _ _ ⟨_, rfl, rgr_op (i := 4) rfl hS, rfl, AllPX.same _⟩
    refine RelyStepsX.cons (RelyStepX.mk [4] [0, 1, 3, 6, 9, 10] rfl rfl rfl (fun xv Lv wS hS hL hLd hV bq hb K hK => ?_)) ?_
    ·obtain ⟨h4, _⟩ := hV
     have h4 : xv 4 = _ := h4
     simp only [putsOf, List.foldl_cons, List.foldl_nil, List.getD_cons_zero, List.getD_cons_succ, List.getD_nil, cond_true, cond_false, Act.put, List.setIfInBounds_toArray, List.set_cons_zero, List.set_cons_succ, h4] at hb
     clear h4
     subst hb
     rw [if_pos (by rfl)]
     have hp : rgCc w g R g3 s z1.1 (.slice Ah z2.1.length ch) z2.1 z3.1 (.slice At k ct) a1.2 wS ∧ slRow w.heap.size (.slice At k ct) k zk.1 wS := apP_low (by decide) (ph_get (m := 1) (j0 := 0) hS (by decide) hL (.inr ⟨rfl, hLd 3 (by decide +kernel)⟩))
     have HP := Lib.hid hp
     have HSS := Lib.hid hS
     have HCN := Lib.hid (srcNumber g R s _ _ wS hp.1.1.src)
     rw [eb] at HCN
     clear hS hp
     go_wp2_with fail
     refine HCN.out.mono ?_
     rintro e w7 ⟨rfl, h7, k7⟩
     exact hK.out _ _ ⟨_, rfl, ph_put (by decide) HSS.out (m := 1) (by decide) rfl hL 0 (.inr ⟨rfl, hLd 3 (by decide +kernel)⟩) (fun j hj => by cases hj) (apP_mk (by decide) ⟨rgCc_src (p2 := a2.2) HP.out.1 k7 h7, own_kept_src HP.out.2 HP.out.1.1.src k7 (by decide) (by decide)⟩), rfl, AllPX.of _ (fun j hj _ h => by
      by_cases e : j = 9
      ·subst e; obtain ⟨b, h1, h2⟩ := h; exact ⟨b, h1, lies_kept_src h2 HP.out.1.1.src k7 (by decide) (by decide)⟩
      ·exact bfV_but 9 (by rfl) hj e h)⟩
    refine RelyStepsX.cons (RelyStepX.mk [] [0, 1, 2, 3, 4, 5, 8, 9, 10] rfl rfl rfl (fun xv Lv wS hS hL hLd hV bq hb K hK => ?_)) ?_
    ·clear hV
     simp only [putsOf, List.foldl_cons, List.foldl_nil, List.getD_cons_zero, List.getD_cons_succ, List.getD_nil, cond_true, cond_false, Act.put, List.setIfInBounds_toArray, List.set_cons_zero, List.set_cons_succ] at hb
     subst hb
     rw [if_pos (by rfl)]
     go_wp2_with fail
     exact hK.out _ _ ⟨_, rfl, rgr_op (i := 6) rfl hS, rfl, AllPX.same _⟩
    refine RelyStepsX.cons (RelyStepX.mk [6] [0, 1, 3, 5, 9] rfl rfl rfl (fun xv Lv wS hS hL hLd hV bq hb K hK => ?_)) ?_
    ·obtain ⟨h6, _⟩ := hV
     have h6 : xv 6 = _ := h6
     simp only [putsOf, List.foldl_cons, List.foldl_nil, List.getD_cons_zero, List.getD_cons_succ, List.getD_nil, cond_true, cond_false, Act.put, List.setIfInBounds_toArray, List.set_cons_zero, List.set_cons_succ, h6] at hb
     clear h6
     subst hb
     rw [if_pos (by rfl)]
     have hp : rgCc w g R g3 s z1.1 (.slice Ah z2.1.length ch) z2.1 z3.1 (.slice At k ct) a2.2 wS ∧ slRow w.heap.size (.slice At k ct) k zk.1 wS := apP_low (by decide) (ph_get (m := 2) (j0 := 1) hS (by decide) hL (.inr ⟨rfl, hLd 5 (by decide +kernel)⟩))
     have HP := Lib.hid hp
     have HSS := Lib.hid hS
     have HCN := Lib.hid (srcSm 65535 65535 rfl g R s _ _ wS hp.1.1.src (by decide))
     rw [ed] at HCN
     clear hS hp
     go_wp2_with fail
     refine HCN.out.mono ?_
     rintro e w7 ⟨rfl, h7, k7⟩
     exact hK.out _ _ ⟨_, rfl, ph_put (by decide) HSS.out (m := 2) (by decide) rfl hL 1 (.inr ⟨rfl, hLd 5 (by decide +kernel)⟩) (fun j hj => by cases hj) (apP_mk (by decide) ⟨rgCc_src (p2 := a3.2) HP.out.1 k7 h7, own_kept_src HP.out.2 HP.out.1.1.src k7 (by decide) (by decide)⟩), rfl, AllPX.of _ (fun j hj _ h => by
      by_cases e : j = 9
      ·subst e; obtain ⟨b, h1, h2⟩ := h; exact ⟨b, h1, lies_kept_src h2 HP.out.1.1.src k7 (by decide) (by decide)⟩
      ·exact bfV_but 9 (by rfl) hj e h)⟩
    refine RelyStepsX.cons (RelyStepX.mk [3, 5, 7] [0, 1, 10] rfl rfl rfl (fun xv Lv wS hS hL hLd hV bq hb K hK => ?_)) ?_
    ·obtain ⟨h3, h5, h7, _⟩ := hV
     have h3 : xv 3 = _ := h3
     have h5 : xv 5 = _ := h5
     have h7 : xv 7 = _ := h7
     simp only [putsOf, List.foldl_cons, List.foldl_nil, List.getD_cons_zero, List.getD_cons_succ, List.getD_nil, cond_true, cond_false, Act.put, List.setIfInBounds_toArray, List.set_cons_zero, List.set_cons_succ, h3, h5, h7] at hb
     clear h3
     clear h5
     clear h7
     subst hb
     rw [if_pos (by rfl)]
     go_wp2_with fail
     exact hK.out _ _ ⟨_, rfl, rgr_op (i := 8) rfl hS, rfl, AllPX.same _⟩
    refine RelyStepsX.cons (RelyStepX.mk [8] [0, 1] rfl rfl rfl (fun xv Lv wS hS hL hLd hV bq hb K hK => ?_)) ?_
    ·obtain ⟨h8, _⟩ := hV
     have h8 : xv 8 = _ := h8
     simp only [putsOf, List.foldl_cons, List.foldl_nil, List.getD_cons_zero, List.getD_cons_succ, List.getD_nil, cond_true, cond_false, Act.put, List.setIfInBounds_toArray, List.set_cons_zero, List.set_cons_succ, h8] at hb
     clear h8
     subst hb
     rw [if_pos (by rfl)]
     have HSS := Lib.hid hS
     clear hS
     go_wp2_with fail
     have hb : Below wS.heap.size wS (wS.alloc (.cells #[.int .u64 (a1.1 : Int), .int .u64 (a2.1 : Int), .int .i64 (a3.1 : Int)] 64)) := (Below.refl _ _).alloc (Nat.le_refl _) _
     exact hK.out _ _ ⟨_, rfl, ph_more rgr_pha rfl HSS.out hb, ⟨wS.heap.size, rfl, Lies.made _ _ _⟩, AllPX.of _ (fun j _ _ h => bfV_below hb h)⟩
    refine RelyStepsX.cons (RelyStepX.mk [1, 9] [2] rfl rfl rfl (fun xv Lv wS hS hL hLd hV bq hb K hK => ?_)) ?_
    ·obtain ⟨h1, h9, _⟩ := hV
     have h1 : xv 1 = _ := h1
     simp only [putsOf, List.foldl_cons, List.foldl_nil, List.getD_cons_zero, List.getD_cons_succ, List.getD_nil, cond_true, cond_false, Act.put, List.setIfInBounds_toArray, List.set_cons_zero, List.set_cons_succ, h1] at hb
     clear h1
     generalize hy9 : xv 9 = y9 at *
     subst hb
     rw [if_pos (by rfl)]
     have hp : rgCc w g R g3 s z1.1 (.slice Ah z2.1.length ch) z2.1 z3.1 (.slice At k ct) a3.2 wS ∧ slRow w.heap.size (.slice At k ct) k zk.1 wS := apP_low (by decide) (ph_get (m := 3) (j0 := 2) hS (by decide) hL (.inr ⟨rfl, hLd 7 (by decide +kernel)⟩))
     have HSS := Lib.hid hS
     obtain ⟨b9, rfl, hl9⟩ := h9
     clear hS
     refine step_list (ops := #[]) (by rfl) (append_argS wS 3 rfl (.tmp 16) (.tmp 24) 52 rfl w.heap.size 64 _ 24 Try.underlying52 infoSlT2 rfl (by decide) (.slice At k ct) k (rowsOf slF zk.1) rfl hp.2 (some ⟨b9, 0, none⟩) 1 1 rfl (slF ⟨a1.1, a2.1, (a3.1 : Nat)⟩) (seq_one2 hl9 rfl) (by have := slF_one [⟨a1.1, a2.1, (a3.1 : Nat)⟩]; rwa [rowsOf_one] at this) (by unfold maxLen; omega) (by omega) hp.1.1.kp.size ?_)
     intro v' w' ho hb hgr
     have hk := Kept.of_grown hgr
     rw [← rowsOf_one (f := slF), ← rowsOf_append] at ho
     refine hK.out _ _ ⟨_, rfl, ph_put (by decide) HSS.out (m := 3) (by decide) rfl hL 2 (.inr ⟨rfl, hLd 7 (by decide +kernel)⟩) (fun j hj => by cases hj) (apP_mkApp ⟨rgCc_app hp.1 hp.2 hk, ?_⟩), trivial, AllPX.of _ (fun j hj _ h => bfV_lit (by rfl) hj h)⟩
     rw [pupdX_self]; exact ho
    refine RelyStepsX.cons (RelyStepX.mk [] [10] rfl rfl rfl (fun xv Lv wS hS hL hLd hV bq hb K hK => ?_)) ?_
    ·clear hV
     simp only [putsOf, List.foldl_cons, List.foldl_nil, List.getD_cons_zero, List.getD_cons_succ, List.getD_nil, cond_true, cond_false, Act.put, List.setIfInBounds_toArray, List.set_cons_zero, List.set_cons_succ] at hb
     subst hb
     rw [if_pos (by rfl)]
     go_wp2_with fail
     exact hK.out _ _ ⟨_, rfl, rgr_op (i := 11) rfl hS, rfl, AllPX.same _⟩
    refine RelyStepsX.cons (RelyStepX.mk [11, 10] [10] rfl rfl rfl (fun xv Lv wS hS hL hLd hV bq hb K hK => ?_)) ?_
    ·obtain ⟨h11, h10, _⟩ := hV
     have h11 : xv 11 = _ := h11
     simp only [putsOf, List.foldl_cons, List.foldl_nil, List.getD_cons_zero, List.getD_cons_succ, List.getD_nil, cond_true, cond_false, Act.put, List.setIfInBounds_toArray, List.set_cons_zero, List.set_cons_succ, h11] at hb
     clear h11
     generalize hy10 : xv 10 = y10 at *
     subst hb
     rw [if_pos (by rfl)]
     have hp := apP_app (ph_get (m := 4) (j0 := 3) hS (by decide) hL (.inr ⟨rfl, hLd 10 (by decide +kernel)⟩))
     rw [hy10] at hp
     have HP := Lib.hid hp
     have HSS := Lib.hid hS
     obtain ⟨A8, c8, e8, _⟩ := own_form2 hp.2
     have q1 := (hp.1.1.box.cell 3).trans (show _ = some (Value.slice At k ct) from rfl)
     have f1 := hp.1.1.box.free 3
     have qt := hp.1.1.box.lt
     subst e8
     clear hS hp
     go_wp2_with fail
     refine hK.out _ _ ⟨undef, rfl, ph_put (by decide) HSS.out (m := 4) (by decide) rfl hL 3 (.inr ⟨rfl, hLd 10 (by decide +kernel)⟩) (fun j hj => hLd j (by revert hj; revert j; decide +kernel)) (apP_mkEnd ?_), trivial, AllPX.of _ (fun j hj _ h => bfV_lit (by rfl) hj h)⟩
     rw [pupdX_ne (by decide), hy10]
     exact ⟨rgCc_put HP.out.1, owns_put HP.out.2 HP.out.1.1.box (by decide) 3 _⟩
    exact RelyStepsX.nil
   case rE =>
    intro xv Lv wE hS hLall hV
    have h10 := hV 10 (by decide) (by decide)
    have h12 := hV 12 (by decide) (by decide)
    clear hV
    have hp := apP_end (ph_end hS 4 rfl (hLall 12 (by decide +kernel)))
    simp only [putsOf, List.foldl_cons, List.foldl_nil, List.getD_cons_zero, List.getD_cons_succ, List.getD_nil, cond_true, cond_false, Act.put, List.setIfInBounds_toArray, List.set_cons_zero, List.set_cons_succ]
    generalize xv 0 = y0 at *
    generalize xv 1 = y1 at *
    generalize xv 2 = y2 at *
    generalize xv 3 = y3 at *
    generalize xv 4 = y4 at *
    generalize xv 5 = y5 at *
    generalize xv 6 = y6 at *
    generalize xv 7 = y7 at *
    generalize xv 8 = y8 at *
    generalize xv 9 = y9 at *
    generalize xv 10 = y10 at *
    generalize xv 11 = y11 at *
    generalize xv 12 = y12 at *
    have HN : Hid (rgCc w g R g3 s z1.1 (.slice Ah z2.1.length ch) z2.1 z3.1 y10 a3.2 wE ∧ slRow w.heap.size y10 (k + 1) (zk.1 ++ [⟨a1.1, a2.1, (a3.1 : Nat)⟩]) wE) := hp
    have HQ : Hid (repR rdSl (k + 1) s zc.2.1 zc.2.2 = (zk.1 ++ [⟨a1.1, a2.1, (a3.1 : Nat)⟩], a3.2)) := by
     show _ = _
     rw [HSU.out, HSL.out]
    clear hS hp h10 h12 hLall HSU HSL HRC HRR
    generalize wE = w9 at *
    go_wp2_with fail
    go_roundw
    case rel =>
     refine ⟨k + 1, by omega, by go_num, y10, ?_⟩
     rw [HQ.out]; exact HN.out
    case measure => simp [intOf]; omega
  ·obtain rfl : k = zc.1 := by omega
   have HLN : Hid ((repR rdSl zc.1 s zc.2.1 zc.2.2).1.length = zc.1) := repR_length rdSl zc.1 s zc.2.1 zc.2.2
   generalize repR rdSl zc.1 s zc.2.1 zc.2.2 = zk at *
   obtain ⟨vt, hc, hr⟩ := HJ.out
   obtain ⟨At, ct, rfl, hct⟩ := own_form2 hr
   have hld := rg_loadL2 hc.1.box
   have hf := hc.1.fin
   have HE := Lib.hid hf
   have HO1 := Lib.hid (hc.2.kept hf.2.2.2 (fun r cur hl (e : r = w.heap.size) => by subst e; exact absurd (hl.same hc.1.res).1 (by decide)))
   have HO2 := Lib.hid (owns_kept hr hf.2.2.2 (fun r cur _ hl (e : r = w.heap.size) => by subst e; exact absurd (hl.same hc.1.res).1 (by decide)))
   have HRC := Lib.hid hc
   clear HJ hc hr hf
   go_upto_region 6 with (fail)
   refine wp_region_lit ?_
   refine wpList_load_known rfl _ _ rfl g3 0 rfl _ hld ?_
   refine wpList_store_row rfl 54 _ _ rfl w.heap.size (rgC2 z1.1 (.slice Ah z2.1.length ch) z3.1 (.slice At zc.1 ct)) rfl rfl 54 rgZ2 HRC.out.1.res infoRg2 rfl (rgC_one2 rfl rfl) ?_
   have hl9 := rg_loadL2 HE.out.2.2.1
   clear hld HRC
   generalize wr.setRow w.heap.size (rgC2 z1.1 (.slice Ah z2.1.length ch) z3.1 (.slice At zc.1 ct)) = w9 at *
   go_wp2_with fail
   refine bodyPost_ret (v := .agg (rgC2 z1.1 (.slice Ah z2.1.length ch) z3.1 (.slice At zc.1 ct))) (res_cell1 rfl rfl hl9) rfl ⟨.slice Ah z2.1.length ch, .slice At zc.1 ct, ?_, ?_, ?_, ?_, HE.out.1⟩
   ·rw [HT.out]
   ·rw [HT.out]; exact HO1.out
   ·rw [HT.out]
    show OwL w9 w.heap.size _ 3 zk.1.length (rowsOf slF zk.1) (.slice At zc.1 ct)
    rw [HLN.out]; exact owL_of HO2.out
   ·rw [HT.out]; exact HE.out.2.1
end Go.Proofs.Ytakggmfpgopcgaa
