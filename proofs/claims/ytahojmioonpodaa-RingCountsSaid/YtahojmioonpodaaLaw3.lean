import Derived.Test.YtahojmioonpodaaLaw2
import Derived.Deep.CutBlock
import Derived.Deep.DeepCutAuto
namespace Go.Proofs.Ytahojmioonpodaa
open Go.RowKit
set_option linter.unusedVariables false
set_option linter.unusedSimpArgs false
/-- How all stands in a round of counting. -/
def CntAt (w wx : World) (g hb rd cc : Nat) (z : Rc) (R : Rg) : Prop :=
  RgAt wx g 83 [] [] R ∧ wx.ownsRow w.heap.size 32 1 (.slice (some ⟨hb, 0, none⟩) rd cc) rd (cellsH (R.h8.take rd)) ∧ Lies wx w.heap.size 23 #[.int .i64 z.k, .int .i64 z.c, .int .i64 z.r] ∧ Below w.heap.size w wx
theorem CntAt.later {w a b : World} {g hb rd cc : Nat} {z : Rc} {R : Rg} (h : CntAt w a g hb rd cc z R) (k : Below a.heap.size a b) : CntAt w b g hb rd cc z R :=
  ⟨h.1.later k, owned_below h.2.1 k, h.2.2.1.below k h.2.2.1.lt, h.2.2.2.trans (k.mono h.2.2.2.size)⟩
theorem doR_headsSame (R : Rg) (x : Op5) (h : doK x ≠ 2) : (doR R x).h8 = R.h8 := by
  unfold doR
  split
  · unfold claimR; split <;> rfl
  · unfold pubR; split <;> rfl
  · exact absurd ‹_› h
  · unfold relR; split <;> rfl
  · rfl
theorem doR_clSame (R : Rg) (x : Op5) (h : doK x ≠ 4) : (doR R x).cl = R.cl := by
  unfold doR
  rcases doK_cases x with ⟨e, _⟩ | ⟨e, _⟩ | ⟨e, _⟩ | ⟨e, _⟩ | ⟨e, _⟩
  · rw [e]; simp only; unfold claimR; split <;> rfl
  · rw [e]; simp only; unfold pubR; split <;> rfl
  · rw [e]; simp only; unfold takeR; split <;> rfl
  · rw [e]; simp only; unfold relR; split <;> rfl
  · exact absurd e h
theorem doE_of (R : Rg) (x : Op5) : (doK x = 0 → doE R x = claimE R ∧ doV R x = claimV R ∧ doR R x = claimR R) ∧ (doK x = 2 → doE R x = takeE R x.j ∧ doV R x = takeV R x.j ∧ doR R x = takeR R x.j) ∧ (doK x = 4 → doR R x = { R with cl := true }) := by
  unfold doE doV doR
  refine ⟨fun e => ?_, fun e => ?_, fun e => ?_⟩ <;> rw [e] <;> simp
theorem doR_tailSame (R : Rg) (x : Op5) (h : doK x ≠ 0) : (doR R x).tail = R.tail := by
  unfold doR
  split
  · exact absurd ‹_› h
  · unfold pubR; split <;> rfl
  · unfold takeR; split <;> rfl
  · unfold relR; split <;> rfl
  · rfl
theorem claim_parts (R : Rg) : (claimE R = 0 ∧ R.cl = false ∧ claimV R = R.tail ∧ (claimR R).tail = R.tail + 1) ∨ (claimE R ≠ 0 ∧ claimR R = R) := by
  by_cases h : claimE R = 0
  · left
    refine ⟨h, ?_, by unfold claimV; rw [if_pos h], by unfold claimR; rw [if_pos h]⟩
    unfold claimE at h
    split at h
    · exact absurd h (by decide)
    · simpa using ‹¬ R.cl = true›
  · right
    exact ⟨h, by unfold claimR; rw [if_neg h]⟩
theorem take_parts {R : Rg} (hR : RgOk R) (j : Int) : (takeE R j = 0 ∧ ∃ (i h : Nat), j = i ∧ i < R.rd ∧ i < 8 ∧ R.h8[i]? = some h ∧ h < R.tail ∧ takeV R j = h ∧ takeR R j = { R with h8 := R.h8.set i (h + 1) }) ∨ (takeE R j ≠ 0 ∧ takeR R j = R) := by
  by_cases h : takeE R j = 0
  · left
    obtain ⟨hr, hne⟩ := takeE_ok h
    obtain ⟨g1, g2, g3⟩ := headN_get hR hr
    obtain ⟨j0, j1⟩ := of_decide_eq_true hr
    have hm := hR.2.2.2.2 _ (List.mem_of_getElem? g1)
    exact ⟨h, j.toNat, headN R j, by omega, by omega, g2, g1, by omega, by unfold takeV; rw [if_pos h], by unfold takeR; rw [if_pos h]⟩
  · right
    exact ⟨h, by unfold takeR; rw [if_neg h]⟩
theorem cellsH_set (l : List Nat) (i x : Nat) : cellsH (l.set i x) = (cellsH l).set i (.int .u64 (x : Int)) := by unfold cellsH; rw [List.map_set]
theorem kk4 (k : Int) (h0 : kk k ≠ 0) (h1 : kk k ≠ 1) (h2 : kk k ≠ 2) (h3 : kk k ≠ 3) : kk k = 4 := by
  have e0 : 0 ≤ IntKind.u64.wrap k := by rw [IntKind.wrap_u64]; omega
  have e1 : (IntKind.u64.wrap k).tmod 5 = IntKind.u64.wrap k % 5 := Int.tmod_eq_emod_of_nonneg e0
  have e2 : wrap64 (IntKind.u64.wrap k % 5) = IntKind.u64.wrap k % 5 := by unfold wrap64; omega
  unfold kk at h0 h1 h2 h3 ⊢
  rw [e1, e2] at h0 h1 h2 h3 ⊢
  omega
set_option maxHeartbeats 8000000 in
set_option maxRecDepth 100000 in
theorem counts_walk (z : Rc) (a1 : Option Addr) (len1 cap1 : Nat) (ops : List Op5) (w : World) (hz : rcOk z) (ha : ArgOf op5F 4 op5Ok w a1 len1 cap1 ops) :
    Calls Try.prog 6 #[.agg #[.int .i64 z.k, .int .i64 z.c, .int .i64 z.r], .slice a1 len1 cap1] w fun e w' => e = .returned (.bool true) ∧ Below w.heap.size w w' := by
  obtain ⟨hn, rfl, hs, hok⟩ := ha
  obtain ⟨i0, hi0, hz0, hz1, hz2⟩ := info_parts Try.infoH
  have hlc := hs.form
  obtain ⟨A', c', e', hc1, hc2, _⟩ := hlc
  simp only [Value.slice.injEq, true_and] at e'
  obtain ⟨rfl, rfl⟩ := e'
  unfold maxLen at hc2
  have hb := (Below.refl w.heap.size w).alloc (Nat.le_refl _) (.cells #[.int .i64 z.k, .int .i64 z.c, .int .i64 z.r] 23)
  have lo := Lies.made w 23 #[.int .i64 z.k, .int .i64 z.c, .int .i64 z.r]
  have LO := Lib.hid lo
  have HB := Lib.hid hb
  have HS := Lib.hid hs
  have HOK := Lib.hid hok
  clear lo hb hs hok
  go_enter Try.func6, Try.ntmps6
  go_wp2_with fail
  refine (awake_any _).mono ?_
  rintro e w1 ⟨rfl, hb1⟩
  have lo1 := LO.out.below hb1 LO.out.lt
  have hb1 := HB.out.trans (hb1.mono HB.out.size)
  have c0 := (lo1.cell 0).trans (show _ = some (Value.int .i64 z.k) from rfl)
  have c1 := (lo1.cell 1).trans (show _ = some (Value.int .i64 z.c) from rfl)
  have c2 := (lo1.cell 2).trans (show _ = some (Value.int .i64 z.r) from rfl)
  have LO1 := Lib.hid lo1
  clear lo1 LO HB
  by_cases h200 : ops.length ≤ 200
  · have hci : ¬ (200 : Int) < (ops.length : Int) := by omega
    go_wp2_with fail
    refine (refMay z.k z.c z.r _).mono ?_
    rintro e w2 ⟨rfl, hb2⟩
    have lo2 := LO1.out.below hb2 LO1.out.lt
    have hb2 := hb1.trans (hb2.mono hb1.size)
    have LO2 := Lib.hid lo2
    clear c0 c1 c2
    have c0 := (lo2.cell 0).trans (show _ = some (Value.int .i64 z.k) from rfl)
    have c1 := (lo2.cell 1).trans (show _ = some (Value.int .i64 z.c) from rfl)
    have c2 := (lo2.cell 2).trans (show _ = some (Value.int .i64 z.r) from rfl)
    clear lo2 LO1 hb1
    obtain ⟨mb, hmb⟩ : ∃ mb, mayB z.k z.c z.r = mb := ⟨_, rfl⟩
    rw [hmb]
    cases mb
    · clear hmb
      go_wp2_with fail
      refine (awake_any _).mono ?_
      rintro e w3 ⟨rfl, hb3⟩
      have hb3 := hb2.trans (hb3.mono hb2.size)
      go_wp2
      go_ret
      exact ⟨rfl, hb3⟩
    · obtain ⟨cap, hcap⟩ : ∃ n : Nat, z.c = n := ⟨z.c.toNat, by have := of_decide_eq_true hmb; omega⟩
      obtain ⟨rd, hrd⟩ : ∃ n : Nat, z.r = n := ⟨z.r.toNat, by have := of_decide_eq_true hmb; omega⟩
      have hmb := of_decide_eq_true hmb
      have n1 : 1 ≤ cap := by omega
      have n2 : cap ≤ 64 := by omega
      have n3 : 1 ≤ rd := by omega
      have n4 : rd ≤ 8 := by omega
      have n5 : z.k = 1 ∧ rd = 1 ∨ z.k = 2 := by omega
      have HN := Lib.hid (fun w => rgNew z.k cap rd w n1 n2 n3 n4 n5)
      rw [← hcap, ← hrd] at HN
      have HCAP := Lib.hid hcap
      have HRD := Lib.hid hrd
      clear hmb n5 hcap hrd
      go_wp2_with fail
      refine (HN.out _).mono ?_
      rintro e w3 ⟨g, rfl, hg, hr3, hb3⟩
      have lo3 := LO2.out.below hb3 LO2.out.lt
      have hg0 := Nat.lt_of_lt_of_le LO2.out.lt hg
      have hb3 := hb2.trans (hb3.mono hb2.size)
      have c2 := (lo3.cell 2).trans (show _ = some (Value.int .i64 z.r) from rfl)
      rw [HRD.out] at c2
      have LO3 := Lib.hid lo3
      have HR3 := Lib.hid hr3
      have hg3 := hr3.lt
      have hbs := hb3.size
      clear lo3 hr3 HN LO2 hb2 hg
      go_wp2_with (at_make; refine wpList_make_full _ rfl _ _ 33 rfl w.heap.size 32 i0 (.int .u64 0) 1 Try.underlying33 hi0 hz0 hz1 .i64 .i64 _ _ rd rfl rfl rfl rfl (by rw [hz2]; omega) (by unfold maxLen; omega) hbs ?_; intro w4 ho4 hg4)
      rw [zeros_made (.int .u64 0) rfl] at ho4
      have hb34 : Below w3.heap.size w3 w4 := (Below.refl _ _).grown hg4 (Nat.le_refl _) (fun _ h => by cases h)
      have hst : CntAt w w4 g w3.heap.size rd rd z (newR cap rd) := by
        refine ⟨HR3.out.later hb34, ?_, LO3.out.below hb34 LO3.out.lt, hb3.trans (hb34.mono hbs)⟩
        have : cellsH ((newR cap rd).h8.take rd) = List.replicate rd (.int .u64 0) := by
          unfold newR cellsH
          rw [show [0, 0, 0, 0, 0, 0, 0, 0] = List.replicate 8 0 from rfl, List.take_replicate, List.map_replicate, Nat.min_eq_left n4]; rfl
        rw [this]; exact ho4
      have HST := Lib.hid hst
      clear hst ho4 hg4 hb34 HR3 LO3 hb3 c2 c0 c1
      generalize w3.heap.size = hq at *
      go_wp2_with fail
      go_loopw [7, 8, 42] (fun s7 s8 u wr => ∃ (k : Nat) (R : Rg), k ≤ ops.length ∧ u = .int .i64 k ∧ s7 = .int .u64 (R.tail : Int) ∧ s8 = .bool R.cl ∧ R.rd = rd ∧ R.cap = cap ∧ Hid (CntOk R) ∧ R.tail ≤ k ∧ CntAt w wr g hq rd rd z R) (fun _ _ u _ => ops.length - (intOf u).toNat)
      case atStart => exact ⟨0, newR cap rd, by omega, rfl, rfl, rfl, rfl, rfl, CntOk.new _ _, Nat.le_refl _, HST.out⟩
      case round =>
        clear HST
        obtain ⟨k, R, hk, rfl, rfl, rfl, hRr, hRc, hcnt, htl, hst⟩ := hrel
        by_cases hlt : k < ops.length
        · have hki : (k : Int) < (ops.length : Int) := by omega
          obtain ⟨x, hx⟩ : ∃ x, ops[k]? = some x := ⟨_, List.getElem?_eq_getElem hlt⟩
          have hxo := HOK.out x (List.mem_of_getElem? hx)
          obtain ⟨b, off, rfl, hbl, gx⟩ := SeqS.at_ op5F_length (by decide) (HS.out.later hst.2.2.2) hx
          have x0 := gx 0 _ (by decide) rfl
          have x1 := gx 1 _ (by decide) rfl
          have x2 := gx 2 _ (by decide) rfl
          have x3 := gx 3 _ (by decide) rfl
          rw [Nat.add_zero] at x0
          have hbA : Below wr.heap.size wr (wr.alloc (.cells #[.int .i64 x.k, .int .i64 x.j, .int .u64 (x.t : Int), .int .u64 (x.v : Int)] 51)) := (Below.refl _ _).alloc (Nat.le_refl _) _
          have lq := Lies.made wr 51 #[.int .i64 x.k, .int .i64 x.j, .int .u64 (x.t : Int), .int .u64 (x.v : Int)]
          have hst1 := hst.later hbA
          have hqg : wr.heap.size ≠ g := by have := hst.1.lt; omega
          have hqw : w.heap.size < wr.heap.size := hst.2.2.1.lt
          have HST1 := Lib.hid hst1
          have LQ := Lib.hid lq
          have HD := Lib.hid (doAny x hst1.1 rfl hxo (by omega))
          have HXO := Lib.hid hxo
          clear hst hbA hst1 lq gx hx hxo hbl
          go_wp2_with fail
          refine HD.out.mono ?_
          rintro e w5 ⟨rfl, hr5, hk5⟩
          have lq5 := LQ.out.kept hk5 hqg
          have ho5 := owns_kept HST1.out.2.1 hk5 (fun r cur _ hl (e : r = g) => by
            subst e
            obtain ⟨M, _, _, h3⟩ := HST1.out.1.2
            exact absurd (hl.same h3).1 (by decide))
          have ll5 := HST1.out.2.2.1.kept hk5 (fun (e : w.heap.size = g) => by omega)
          have hb5 := HST1.out.2.2.2.trans (hk5.below HST1.out.2.2.2.size (fun j hj (e : j = g) => by omega))
          have y0 := (lq5.cell 0).trans (show _ = some (Value.int .i64 x.k) from rfl)
          have y1 := (lq5.cell 1).trans (show _ = some (Value.int .i64 x.j) from rfl)
          have z2 := (ll5.cell 2).trans (show _ = some (Value.int .i64 z.r) from rfl)
          rw [HRD.out] at z2
          have hrk := HST1.out.1.1
          have HR5 := Lib.hid hr5
          have HO5 := Lib.hid ho5
          have LL5 := Lib.hid ll5
          have HB5 := Lib.hid hb5
          have HROK := Lib.hid hrk
          have hg5 := hr5.lt
          clear hr5 hk5 lq5 ho5 ll5 hb5 hrk HD HST1 LQ x0 x1 x2 x3 hqg hqw
          obtain ⟨E, hE⟩ : ∃ E, doE R x = E := ⟨_, rfl⟩
          obtain ⟨V, hV⟩ : ∃ V, doV R x = V := ⟨_, rfl⟩
          rw [hE, hV]
          have HE := Lib.hid hE
          have HV := Lib.hid hV
          clear hE hV
          go_upto_block 2 with (fail)
          go_cut [7, 8] (fun s7 s8 wx => s7 = .int .u64 ((doR R x).tail : Int) ∧ s8 = .bool (doR R x).cl ∧ CntAt w wx g hq rd rd z (doR R x))
          case first =>
            have hk4 : kk x.k = 4 ∨ kk x.k ≠ 4 := by omega
            rcases doK_cases x with ⟨e, k0⟩ | ⟨e, k0, k1⟩ | ⟨e, k0, k1, k2⟩ | ⟨e, k0, k1, k2, k3⟩ | ⟨e, k0, k1, k2, k3⟩
            · have e0 : (wrap64 ((IntKind.u64.wrap x.k).tmod 5) == 0) = true := by rw [beq_iff_eq]; exact k0
              obtain ⟨f1, f2, f3⟩ := (doE_of R x).1 e
              rcases claim_parts R with ⟨q1, q2, q3, q4⟩ | ⟨q1, q2⟩
              · obtain rfl : E = 0 := by rw [← HE.out, f1, q1]
                obtain rfl : V = R.tail := by rw [← HV.out, f2, q3]
                have HT : Hid ((doR R x).tail = R.tail + 1) := by show _ = _; rw [f3]; exact q4
                have HCL : Hid ((doR R x).cl = false) := by show _ = _; rw [doR_clSame R x (by omega)]; exact q2
                have HCT : Hid (CntAt w w5 g hq rd rd z (doR R x)) := ⟨HR5.out, by rw [doR_headsSame R x (by omega)]; exact HO5.out, LL5.out, HB5.out⟩
                clear e k0 f1 f2 f3 q1 q3 q4 hk4
                go_wp2
                go_meet
                exact ⟨by rw [HT.out]; go_num, by rw [HCL.out, q2], HCT.out⟩
              · have e5 : ((E : Int) == 0) = false := by rw [beq_eq_false_iff_ne, ← HE.out, f1]; omega
                have HT : Hid (doR R x = R) := by show _ = _; rw [f3]; exact q2
                have HCT : Hid (CntAt w w5 g hq rd rd z (doR R x)) := ⟨HR5.out, by rw [doR_headsSame R x (by omega)]; exact HO5.out, LL5.out, HB5.out⟩
                clear e k0 f1 f2 f3 q1 q2 hk4
                go_wp2
                go_meet
                exact ⟨by rw [HT.out], by rw [HT.out], HCT.out⟩
            · have e0 : (wrap64 ((IntKind.u64.wrap x.k).tmod 5) == 0) = false := by rw [beq_eq_false_iff_ne]; exact k0
              have e2 : (wrap64 ((IntKind.u64.wrap x.k).tmod 5) == 2) = false := by rw [beq_eq_false_iff_ne]; show kk x.k ≠ 2; omega
              have e4 : (wrap64 ((IntKind.u64.wrap x.k).tmod 5) == 4) = false := by rw [beq_eq_false_iff_ne]; show kk x.k ≠ 4; omega
              have HT : Hid ((doR R x).tail = R.tail) := doR_tailSame R x (by omega)
              have HCL : Hid ((doR R x).cl = R.cl) := doR_clSame R x (by omega)
              have HCT : Hid (CntAt w w5 g hq rd rd z (doR R x)) := ⟨HR5.out, by rw [doR_headsSame R x (by omega)]; exact HO5.out, LL5.out, HB5.out⟩
              clear e k0 k1 hk4
              go_wp2
              go_meet
              exact ⟨by rw [HT.out], by rw [HCL.out], HCT.out⟩
            · have e0 : (wrap64 ((IntKind.u64.wrap x.k).tmod 5) == 0) = false := by rw [beq_eq_false_iff_ne]; exact k0
              have e2 : (wrap64 ((IntKind.u64.wrap x.k).tmod 5) == 2) = true := by rw [beq_iff_eq]; exact k2
              obtain ⟨f1, f2, f3⟩ := (doE_of R x).2.1 e
              rcases take_parts HROK.out x.j with ⟨q1, i, h, q2, q3, q4, q5, q6, q7, q8⟩ | ⟨q1, q2⟩
              · obtain rfl : E = 0 := by rw [← HE.out, f1, q1]
                obtain rfl : V = h := by rw [← HV.out, f2, q7]
                rw [q2] at y1
                rw [hRr] at q3
                have hi2 : (i : Int) < (rd : Int) := by omega
                have hhv : (cellsH (R.h8.take rd))[i]? = some (.int .u64 (V : Int)) := by unfold cellsH; rw [List.getElem?_map, List.getElem?_take, if_pos q3, q5]; rfl
                have d1 := owns_cell HO5.out hhv
                have d2 := owns_free HO5.out q3
                have hqn : ∀ b, b ≠ hq → True := fun _ _ => trivial
                have hqlt := World.block_lt_of_cell? w5 _ d1
                have hk9 : Kept (oneRow hq) w5 (w5.setCell ⟨hq, i, none⟩ (.int .u64 ((V : Int) + 1))) := Kept.put w5 hq i _
                have HT : Hid ((doR R x).tail = R.tail) := doR_tailSame R x (by omega)
                have HCL : Hid ((doR R x).cl = R.cl) := doR_clSame R x (by omega)
                have HCT : Hid (CntAt w (w5.setCell ⟨hq, i, none⟩ (.int .u64 ((V : Int) + 1))) g hq rd rd z (doR R x)) := by
                  refine ⟨HR5.out.kept hk9 (fun (e : g = hq) => by omega), ?_, LL5.out.kept hk9 (fun (e : w.heap.size = hq) => by omega), HB5.out.trans (hk9.below HB5.out.size (fun j hj (e : j = hq) => by omega))⟩
                  have := owns_set (u := .int .u64 ((V : Int) + 1)) HO5.out q3
                  have h2 : cellsH ((doR R x).h8.take rd) = (cellsH (R.h8.take rd)).set i (.int .u64 ((V : Int) + 1)) := by
                    rw [f3, q8]; simp only
                    rw [List.take_set, cellsH_set]; rfl
                  rw [h2]; exact this
                have hV : (V : Int) ≤ 1000 := by omega
                clear e k0 k1 k2 f1 f2 f3 q1 q2 q5 q7 q8 hk4 hhv hk9 hqn
                go_wp2
                go_meet
                exact ⟨by rw [HT.out], by rw [HCL.out], HCT.out⟩
              · have e5 : ((E : Int) == 0) = false := by rw [beq_eq_false_iff_ne, ← HE.out, f1]; omega
                have e4 : (wrap64 ((IntKind.u64.wrap x.k).tmod 5) == 4) = false := by rw [beq_eq_false_iff_ne]; show kk x.k ≠ 4; omega
                have HT : Hid (doR R x = R) := by show _ = _; rw [f3]; exact q2
                have HCT : Hid (CntAt w w5 g hq rd rd z (doR R x)) := ⟨HR5.out, by rw [f3, q2]; exact HO5.out, LL5.out, HB5.out⟩
                clear e k0 k1 k2 f1 f2 f3 q1 q2 hk4
                go_wp2
                go_meet
                exact ⟨by rw [HT.out], by rw [HT.out], HCT.out⟩
            · have e0 : (wrap64 ((IntKind.u64.wrap x.k).tmod 5) == 0) = false := by rw [beq_eq_false_iff_ne]; exact k0
              have e2 : (wrap64 ((IntKind.u64.wrap x.k).tmod 5) == 2) = false := by rw [beq_eq_false_iff_ne]; exact k2
              have e4 : (wrap64 ((IntKind.u64.wrap x.k).tmod 5) == 4) = false := by rw [beq_eq_false_iff_ne]; show kk x.k ≠ 4; omega
              have HT : Hid ((doR R x).tail = R.tail) := doR_tailSame R x (by omega)
              have HCL : Hid ((doR R x).cl = R.cl) := doR_clSame R x (by omega)
              have HCT : Hid (CntAt w w5 g hq rd rd z (doR R x)) := ⟨HR5.out, by rw [doR_headsSame R x (by omega)]; exact HO5.out, LL5.out, HB5.out⟩
              clear e k0 k1 hk4
              go_wp2
              go_meet
              exact ⟨by rw [HT.out], by rw [HCL.out], HCT.out⟩
            · have e0 : (wrap64 ((IntKind.u64.wrap x.k).tmod 5) == 0) = false := by rw [beq_eq_false_iff_ne]; exact k0
              have e2 : (wrap64 ((IntKind.u64.wrap x.k).tmod 5) == 2) = false := by rw [beq_eq_false_iff_ne]; exact k2
              have e4 : (wrap64 ((IntKind.u64.wrap x.k).tmod 5) == 4) = true := by rw [beq_iff_eq]; exact kk4 x.k k0 k1 k2 k3
              have HT : Hid ((doR R x).tail = R.tail) := doR_tailSame R x (by omega)
              have HCL : Hid ((doR R x).cl = true) := by show _ = _; rw [(doE_of R x).2.2 e]
              have HCT : Hid (CntAt w w5 g hq rd rd z (doR R x)) := ⟨HR5.out, by rw [doR_headsSame R x (by omega)]; exact HO5.out, LL5.out, HB5.out⟩
              clear e k0 k1 k2 k3 hk4
              go_wp2
              go_meet
              exact ⟨by rw [HT.out], by rw [HCL.out], HCT.out⟩
          case rest =>
            obtain ⟨rfl, rfl, hst2⟩ := hcut
            obtain ⟨hr2, hc2'⟩ := doR_rd R x
            have ht2 := doR_tail R x
            have hcn2 := hcnt.out.do_ HROK.out x
            generalize doR R x = R2 at *
            rw [hRr] at hr2
            rw [hRc] at hc2'
            have HC2 := Lib.hid hc2'
            clear hRr hRc hc2'
            subst hr2
            have HCN2 := Lib.hid hcn2
            have HST2 := Lib.hid hst2
            have HGS := Lib.hid (rgState hst2.1 rfl)
            have htl2 : R2.tail ≤ 201 := by omega
            have htl3 : R2.tail ≤ k + 1 := by omega
            clear hcnt hcn2 hst2 HROK HR5 HO5 LL5 HB5 HE HV y0 y1 z2 hg5 HXO htl ht2
            go_wp2_with fail
            refine HGS.out.mono ?_
            rintro e w7 ⟨A1, c1, A2, c2, rfl, ho7, _, hb7⟩
            have hbB : Below w7.heap.size w7 (w7.alloc (.cells #[.int .u64 (R2.tail : Int), .slice A1 R2.rd c1, .bool R2.cl, .slice A2 R2.L.length c2] 42)) := (Below.refl _ _).alloc (Nat.le_refl _) _
            have hst8 := (HST2.out.later hb7).later hbB
            have hq7 := (SeqAt.of_owns ho7).later_ hbB
            have z1 := (hst8.2.2.1.cell 1).trans (show _ = some (Value.int .i64 z.c) from rfl)
            have z2 := (hst8.2.2.1.cell 2).trans (show _ = some (Value.int .i64 z.r) from rfl)
            rw [HRD.out] at z2
            rw [HCAP.out] at z1
            have hwl := hst8.2.2.1.lt
            have HST8 := Lib.hid hst8
            have HQ7 := Lib.hid hq7
            clear hb7 ho7 hbB hst8 hq7 HST2 HGS
            have hwcap : IntKind.u64.wrap (cap : Int) = (cap : Int) := by rw [IntKind.wrap_u64]; omega
            go_wp2
            generalize w7.alloc (.cells #[.int .u64 (R2.tail : Int), .slice A1 R2.rd c1, .bool R2.cl, .slice A2 R2.L.length c2] 42) = w8 at *
            go_loopw [124] (fun u w9 => ∃ j : Nat, j ≤ R2.rd ∧ u = .int .i64 j ∧ w9 = w8) (fun u _ => R2.rd - (intOf u).toNat)
            case atStart => exact ⟨0, by omega, rfl, rfl⟩
            case round =>
              obtain ⟨j, hj, rfl, rfl⟩ := hrel
              by_cases hjl : j < R2.rd
              · have hji : (j : Int) < (R2.rd : Int) := by omega
                have hrk := HST8.out.1.1
                obtain ⟨y, hy⟩ : ∃ y, R2.h8[j]? = some y := ⟨_, List.getElem?_eq_getElem (by have := hrk.1; omega)⟩
                have hyl := hrk.2.2.2.2 y (List.mem_of_getElem? hy)
                have hyt : R2.h8.take R2.rd = R2.h8.take R2.rd := rfl
                have hyj : (R2.h8.take R2.rd)[j]? = some y := by rw [List.getElem?_take, if_pos hjl]; exact hy
                have hyc := HCN2.out y (List.mem_of_getElem? hyj)
                rw [HC2.out] at hyc
                have hcj : (cellsH (R2.h8.take R2.rd))[j]? = some (.int .u64 (y : Int)) := by unfold cellsH; rw [List.getElem?_map, hyj]; rfl
                have d1 := owns_cell HST8.out.2.1 hcj
                obtain ⟨b9, off9, rfl, _, d2⟩ := HQ7.out.get (Below.refl _ _) hcj
                have hyi : (y : Int) ≤ (R2.tail : Int) := by omega
                have hyi2 : (R2.tail : Int) - (y : Int) ≤ (cap : Int) := by omega
                clear hrk hy hyl hyt hyj hyc hcj
                go_wp2
                go_roundw
                case rel => exact ⟨j + 1, by omega, by go_num, trivial⟩
                case measure => simp [intOf]; omega
              · obtain rfl : j = R2.rd := by omega
                go_wp2
                go_roundw
                case rel => exact ⟨k + 1, R2, by omega, by go_num, rfl, rfl, rfl, HC2.out, HCN2, htl3, HST8.out⟩
                case measure => simp [intOf]; omega
        · obtain rfl : k = ops.length := by omega
          have HB := Lib.hid hst.2.2.2
          clear hst hcnt
          go_wp2
          go_ret
          exact ⟨rfl, HB.out⟩
  · have hci : (200 : Int) < (ops.length : Int) := by omega
    go_wp2_with fail
    refine (awake_any _).mono ?_
    rintro e w3 ⟨rfl, hb3⟩
    have hb3 := hb1.trans (hb3.mono hb1.size)
    go_wp2
    go_ret
    exact ⟨rfl, hb3⟩
end Go.Proofs.Ytahojmioonpodaa
