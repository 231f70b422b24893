/-
  The document's Print (layer 9).
-/
import Derived.Test.YtebgcehcnenjiaaDoorRfwr
namespace Go.Proofs.YtebgcehcnenjiaaDoor
open Go.RowKit
set_option linter.unusedVariables false
set_option linter.unusedSimpArgs false
theorem rfBytesLit (zs : List Int) (cs : Array Value) (n gb : Nat) (w : World) (hgb : w.heap.size = gb) (hn : zs.length = n) (hcs : cs = (intZ zs).toArray) (hz : ∀ z ∈ zs, 0 ≤ z ∧ z ≤ 255) (hl : zs.length ≤ 100) :
    Calls Tryd.prog 41 #[.slice (some ⟨gb, 0, none⟩) n n] (w.alloc (.cells cs 3)) fun e w' => e = .returned (.string (textB (zs.map bI))) ∧ Below w.heap.size w w' := by
  subst hgb hcs
  have hb : Below w.heap.size w (w.alloc (.cells (intZ zs).toArray 3)) := (Below.refl _ _).alloc (Nat.le_refl _) _
  refine (rfBytes zs w.heap.size n _ hn (Lies.made w _ _) hz hl).mono ?_
  rintro e w' ⟨rfl, h⟩
  exact ⟨rfl, hb.trans (h.mono hb.size)⟩
def rpV (N b o i : Nat) (vR : Value) (X : List UInt8) (r : Ri) : Nat → Value → World → Prop
  | 0, v, _ => v = .string (textB X)
  | 1, v, _ => v = .pointer (some ⟨N, 0, none⟩)
  | 2, v, _ => v = vR
  | 3, v, _ => v = .int .i64 (i : Int)
  | 4, v, _ => v = .pointer (some ⟨b, o + i * 3, none⟩)
  | 5, v, _ => v = .pointer (some ⟨b, o + i * 3, none⟩)
  | 6, v, _ => v = .int .i64 r.k
  | 7, v, _ => v = .pointer (some ⟨N, 0, none⟩)
  | 8, v, _ => v = vR
  | 9, v, _ => v = .int .i64 (i : Int)
  | 10, v, _ => v = .pointer (some ⟨b, o + i * 3, none⟩)
  | 11, v, _ => v = .pointer (some ⟨b, o + i * 3 + 1, none⟩)
  | 12, v, _ => v = .int .i64 r.c
  | 13, v, _ => v = .pointer (some ⟨N, 0, none⟩)
  | 14, v, _ => v = vR
  | 15, v, _ => v = .int .i64 (i : Int)
  | 16, v, _ => v = .pointer (some ⟨b, o + i * 3, none⟩)
  | 17, v, _ => v = .pointer (some ⟨b, o + i * 3 + 2, none⟩)
  | 18, v, _ => v = .int .i64 r.r
  | 19, v, w => ∃ g, v = .slice (some ⟨g, 0, none⟩) 3 3 ∧ Lies w g 3 #[.int .i64 r.k, .int .i64 r.c, .int .i64 r.r]
  | 20, v, _ => v = .string (textB (riE r))
  | 21, v, _ => v = .string (textB X ++ textB (riE r))
  | 22, v, _ => v = .string (textB X ++ textB (riE r))
  | _, _, _ => True
theorem rpV_below {N b o i : Nat} {vR : Value} {X : List UInt8} {r : Ri} {w w' : World} (hb : Below w.heap.size w w') {j : Nat} {u : Value} (h : rpV N b o i vR X r j u w) : rpV N b o i vR X r j u w' := by
  match j with
  | 0 => exact h
  | 1 => exact h
  | 2 => exact h
  | 3 => exact h
  | 4 => exact h
  | 5 => exact h
  | 6 => exact h
  | 7 => exact h
  | 8 => exact h
  | 9 => exact h
  | 10 => exact h
  | 11 => exact h
  | 12 => exact h
  | 13 => exact h
  | 14 => exact h
  | 15 => exact h
  | 16 => exact h
  | 17 => exact h
  | 18 => exact h
  | 19 =>
    obtain ⟨g, e, hl⟩ := h
    exact ⟨g, e, hl.below hb hl.lt⟩
  | 20 => exact h
  | 21 => exact h
  | 22 => exact h
  | _ + 23 => trivial
abbrev in5 (x : In) : List UInt8 := [bI x.op, bI x.a, bI x.b, bI x.c, bI x.d]
def rxV (M : Nat) (X : List UInt8) (x : In) : Nat → Value → World → Prop
  | 0, v, _ => v = .string (textB X)
  | 1, v, _ => v = .pointer (some ⟨M, 0, none⟩)
  | 2, v, _ => v = .int .i64 x.op
  | 3, v, _ => v = .pointer (some ⟨M, 1, none⟩)
  | 4, v, _ => v = .int .i64 x.a
  | 5, v, _ => v = .pointer (some ⟨M, 2, none⟩)
  | 6, v, _ => v = .int .i64 x.b
  | 7, v, _ => v = .pointer (some ⟨M, 3, none⟩)
  | 8, v, _ => v = .int .i64 x.c
  | 9, v, _ => v = .pointer (some ⟨M, 4, none⟩)
  | 10, v, _ => v = .int .i64 x.d
  | 11, v, w => ∃ g, v = .slice (some ⟨g, 0, none⟩) 5 5 ∧ Lies w g 3 #[.int .i64 x.op, .int .i64 x.a, .int .i64 x.b, .int .i64 x.c, .int .i64 x.d]
  | 12, v, _ => v = .string (textB (in5 x))
  | 13, v, _ => v = .pointer (some ⟨M, 5, none⟩)
  | 14, v, _ => v = .int .u64 (x.k : Int)
  | 15, v, _ => v = .string (textB (enc x.k))
  | 16, v, _ => v = .string (textB (in5 x) ++ textB (enc x.k))
  | 17, v, _ => v = .string (textB X ++ (textB (in5 x) ++ textB (enc x.k)))
  | 18, v, _ => v = .string (textB X ++ (textB (in5 x) ++ textB (enc x.k)))
  | _, _, _ => True
theorem rxV_below {M : Nat} {X : List UInt8} {x : In} {w w' : World} (hb : Below w.heap.size w w') {j : Nat} {u : Value} (h : rxV M X x j u w) : rxV M X x j u w' := by
  match j with
  | 0 => exact h
  | 1 => exact h
  | 2 => exact h
  | 3 => exact h
  | 4 => exact h
  | 5 => exact h
  | 6 => exact h
  | 7 => exact h
  | 8 => exact h
  | 9 => exact h
  | 10 => exact h
  | 11 =>
    obtain ⟨g, e, hl⟩ := h
    exact ⟨g, e, hl.below hb hl.lt⟩
  | 12 => exact h
  | 13 => exact h
  | 14 => exact h
  | 15 => exact h
  | 16 => exact h
  | 17 => exact h
  | 18 => exact h
  | _ + 19 => trivial
set_option maxHeartbeats 16000000 in
set_option maxRecDepth 100000 in
theorem rfPrint (p : Pg) (A : Option Addr) (c : Nat) (B : Option Addr) (d : Nat) (w : World) (h : PgAt w A c B d p) (he : encB p = true) :
    Calls Tryd.prog 24 #[.agg (pgC A c B d p)] w fun e w' => e = .returned (.string (textB (pgE p))) ∧ Below w.heap.size w w' := by
  obtain ⟨hc1, hc2⟩ := seq_form h.1
  obtain ⟨hd1, hd2⟩ := h.2.form
  obtain ⟨hr8, ht8, hril, hthl⟩ := enc_parts.1 he
  have hb0 : Below w.heap.size w (w.alloc (.cells (pgC A c B d p) 35)) := (Below.refl _ _).alloc (Nat.le_refl _) _
  have l0 := Lies.made w 35 (pgC A c B d p)
  have HH := Lib.hid h
  have HRI := Lib.hid hril
  have HTH := Lib.hid hthl
  have HB0 := Lib.hid hb0
  have HL0 := Lib.hid l0
  clear h hb0 l0 hril hthl he
  go_enter Tryd.func24, Tryd.ntmps24
  go_upto_region 1 with (fail)
  generalize w.alloc (.cells (pgC A c B d p) 35) = w1 at *
  have c0 := (HL0.out.cell 0).trans (show _ = some (Value.slice A p.rs.length c) from rfl)
  have cl := HL0.out.lt
  go_wp2_with fail
  refine (rfBytesLit [(p.rs.length : Int)] _ 1 _ w1 rfl rfl rfl (fun z hz => by simp at hz; omega) (by simp)).mono ?_
  rintro e w2 ⟨rfl, hb2⟩
  have HB2 := Lib.hid (HB0.out.trans (hb2.mono HB0.out.size))
  have HL2 := Lib.hid (HL0.out.below hb2 HL0.out.lt)
  have HX : Hid (textB ([(p.rs.length : Int)].map bI) = textB ([bI (p.rs.length : Int)] ++ (p.rs.take 0).flatMap riE)) := by show _ = _; simp
  rw [HX.out]
  clear hb2 HB0 HL0 c0 cl HX
  go_wp2_with fail
  go_loopw [4, 3] (fun u s wr => ∃ i : Nat, i ≤ p.rs.length ∧ u = .int .i64 i ∧ s = .string (textB ([bI (p.rs.length : Int)] ++ (p.rs.take i).flatMap riE)) ∧ Hid (Below w.heap.size w wr) ∧ Hid (Lies wr w.heap.size 35 (pgC A c B d p))) (fun u _ _ => p.rs.length - (intOf u).toNat)
  case atStart => exact ⟨0, by omega, rfl, rfl, HB2, HL2⟩
  case round =>
    clear HB2 HL2
    obtain ⟨i, hi, rfl, rfl, HB, HL⟩ := hrel
    have c0 := (HL.out.cell 0).trans (show _ = some (Value.slice A p.rs.length c) from rfl)
    have cl := HL.out.lt
    by_cases hlt : i < p.rs.length
    · have hii : (i : Int) < (p.rs.length : Int) := by omega
      obtain ⟨r, hr⟩ : ∃ r, p.rs[i]? = some r := ⟨_, List.getElem?_eq_getElem hlt⟩
      obtain ⟨b, off, rfl, hbl, hg⟩ := RisAt.at_ (HH.out.1.later HB.out) hr
      have HG0 := Lib.hid (hg 0 _ (by decide) rfl)
      have HG1 := Lib.hid (hg 1 _ (by decide) rfl)
      have HG2 := Lib.hid (hg 2 _ (by decide) rfl)
      have HRR := Lib.hid (ril_iff.1 (HRI.out r (List.mem_of_getElem? hr)))
      have HNX : Hid (textB ([bI (p.rs.length : Int)] ++ (p.rs.take i).flatMap riE) ++ textB (riE r) = textB ([bI (p.rs.length : Int)] ++ (p.rs.take (i + 1)).flatMap riE)) := by
        show _ = _
        rw [flat_next riE hr, text_append, List.append_assoc]
      have hln : ([bI (p.rs.length : Int)] ++ (p.rs.take i).flatMap riE).length ≤ 100 := by
        have := flat_le (f := riE) (m := 3) (p.rs.take i) (fun _ _ => Nat.le_refl _)
        rw [List.length_take] at this
        simp only [List.length_append, List.length_cons, List.length_nil]; omega
      generalize [bI (p.rs.length : Int)] ++ (p.rs.take i).flatMap riE = X at *
      have e9 : ¬ 9223372036854775807 < (textB X).size + (textB (riE r)).size := by
        rw [textB_size, textB_size]
        simp only [riE, List.length_cons, List.length_nil]; omega
      clear hg hr hln
      go_wp2_with fail
      clear c0 cl
      have HCB := Lib.hid (fun q (hq : Below wr.heap.size wr q) => HL.out.below hq HL.out.lt)
      refine wp_region_rely (fun q => Below wr.heap.size wr q) (rpV w.heap.size b off i (.slice (some ⟨b, off, none⟩) p.rs.length c) X r) [some 20, some 21, some 22, some 23, some 24, some 25, some 26, some 27, some 28, some 29, some 30, some 31, some 32, some 33, some 34, some 35, some 36, some 37, some 38, some 39, some 40, some 41, some 3] [[], [], [1], [], [2, 3], [4], [5], [], [7], [], [8, 9], [10], [11], [], [13], [], [14, 15], [16], [17], [6, 12, 18], [19], [0, 20], [21]] [[], [], [1], [], [1, 2, 3], [2, 3, 4], [4, 5], [], [7], [], [7, 8, 9], [8, 9, 10], [10, 11], [], [13], [], [13, 14, 15], [14, 15, 16], [16, 17], [5, 6, 11, 12, 17, 18], [6, 12, 18, 19], [0, 19, 20], [0, 1, 2, 3, 4, 5, 6, 7, 8, 9, 10, 11, 12, 13, 14, 15, 16, 17, 18, 19, 20, 21]] [[1, 2, 3, 4, 5, 6, 7, 8, 9, 10, 11, 12, 13, 14, 15, 16, 17, 18, 19, 20], [0, 3, 4, 5, 6, 7, 8, 9, 10, 11, 12, 13, 14, 15, 16, 17, 18, 19, 20, 21], [0, 3, 5, 6, 7, 8, 9, 10, 11, 12, 13, 14, 15, 16, 17, 18, 19, 20, 21], [0, 1, 2, 5, 6, 7, 8, 9, 10, 11, 12, 13, 14, 15, 16, 17, 18, 19, 20, 21], [0, 6, 7, 8, 9, 10, 11, 12, 13, 14, 15, 16, 17, 18, 19, 20, 21], [0, 7, 8, 9, 10, 11, 12, 13, 14, 15, 16, 17, 18, 19, 20, 21], [0, 1, 7, 8, 9, 10, 11, 12, 13, 14, 15, 16, 17, 18, 20, 21], [0, 1, 2, 3, 4, 5, 6, 9, 10, 11, 12, 13, 14, 15, 16, 17, 18, 19, 20, 21], [0, 1, 2, 3, 4, 5, 6, 9, 11, 12, 13, 14, 15, 16, 17, 18, 19, 20, 21], [0, 1, 2, 3, 4, 5, 6, 7, 8, 11, 12, 13, 14, 15, 16, 17, 18, 19, 20, 21], [0, 1, 2, 3, 4, 5, 6, 12, 13, 14, 15, 16, 17, 18, 19, 20, 21], [0, 1, 2, 3, 4, 5, 6, 13, 14, 15, 16, 17, 18, 19, 20, 21], [0, 1, 2, 3, 4, 5, 6, 7, 13, 14, 15, 16, 17, 18, 20, 21], [0, 1, 2, 3, 4, 5, 6, 7, 8, 9, 10, 11, 12, 15, 16, 17, 18, 19, 20, 21], [0, 1, 2, 3, 4, 5, 6, 7, 8, 9, 10, 11, 12, 15, 17, 18, 19, 20, 21], [0, 1, 2, 3, 4, 5, 6, 7, 8, 9, 10, 11, 12, 13, 14, 17, 18, 19, 20, 21], [0, 1, 2, 3, 4, 5, 6, 7, 8, 9, 10, 11, 12, 18, 19, 20, 21], [0, 1, 2, 3, 4, 5, 6, 7, 8, 9, 10, 11, 12, 19, 20, 21], [0, 1, 2, 3, 4, 5, 6, 7, 8, 9, 10, 11, 12, 13, 20, 21], [0, 1, 2, 3, 7, 8, 9, 13, 14, 15, 21], [0, 1, 2, 3, 4, 7, 8, 9, 10, 13, 14, 15, 16], [1, 2, 3, 4, 5, 7, 8, 9, 10, 11, 13, 14, 15, 16, 17], []] [0, 1, 2, 3, 4, 5, 6, 7, 8, 9, 10, 11, 12, 13, 14, 15, 16, 17, 18, 19, 20, 21, 22] 23 (by kernel_rfl) (by kernel_rfl) (by kernel_rfl) (by kernel_rfl) ?rS (fun j h1 h2 => absurd (Nat.lt_of_lt_of_le h1 (Nat.le_trans (by decide) h2)) (Nat.lt_irrefl _)) ?rT ?rE
      case rS => exact below_drewN (Below.refl _ _) 1
      case rT =>
        refine RelySteps.cons (RelyStep.mk [] [1, 2, 3, 4, 5, 6, 7, 8, 9, 10, 11, 12, 13, 14, 15, 16, 17, 18, 19, 20] rfl rfl rfl (fun xv wS hS hV bq hb K hK => ?_)) ?_
        · clear hV
          simp only [putsOf, List.foldl_cons, List.foldl_nil, List.getD_cons_zero, List.getD_cons_succ, List.getD_nil, cond_true, cond_false, Act.put, List.setIfInBounds_toArray, List.set_cons_zero, List.set_cons_succ] at hb
          subst hb
          rw [if_pos (by rfl)]
          go_wp2_with fail
          exact hK.out _ _ ⟨_, rfl, hS, rfl, AllP.same _⟩
        refine RelySteps.cons (RelyStep.mk [] [0, 3, 4, 5, 6, 7, 8, 9, 10, 11, 12, 13, 14, 15, 16, 17, 18, 19, 20, 21] rfl rfl rfl (fun xv wS hS hV bq hb K hK => ?_)) ?_
        · clear hV
          simp only [putsOf, List.foldl_cons, List.foldl_nil, List.getD_cons_zero, List.getD_cons_succ, List.getD_nil, cond_true, cond_false, Act.put, List.setIfInBounds_toArray, List.set_cons_zero, List.set_cons_succ] at hb
          subst hb
          rw [if_pos (by rfl)]
          go_wp2_with fail
          exact hK.out _ _ ⟨_, rfl, hS, rfl, AllP.same _⟩
        refine RelySteps.cons (RelyStep.mk [1] [0, 3, 5, 6, 7, 8, 9, 10, 11, 12, 13, 14, 15, 16, 17, 18, 19, 20, 21] rfl rfl rfl (fun xv wS hS hV bq hb K hK => ?_)) ?_
        · obtain ⟨h1, _⟩ := hV
          have h1 : xv 1 = _ := h1
          simp only [putsOf, List.foldl_cons, List.foldl_nil, List.getD_cons_zero, List.getD_cons_succ, List.getD_nil, cond_true, cond_false, Act.put, List.setIfInBounds_toArray, List.set_cons_zero, List.set_cons_succ, h1] at hb
          clear h1
          subst hb
          rw [if_pos (by rfl)]
          (have q1 := HCB.out _ hS; have c0 := (q1.cell 0).trans (show _ = some (Value.slice (some ⟨b, off, none⟩) p.rs.length c) from rfl); have c2 := q1.lt; clear q1)
          go_wp2_with fail
          exact hK.out _ _ ⟨_, rfl, hS, rfl, AllP.same _⟩
        refine RelySteps.cons (RelyStep.mk [] [0, 1, 2, 5, 6, 7, 8, 9, 10, 11, 12, 13, 14, 15, 16, 17, 18, 19, 20, 21] rfl rfl rfl (fun xv wS hS hV bq hb K hK => ?_)) ?_
        · clear hV
          simp only [putsOf, List.foldl_cons, List.foldl_nil, List.getD_cons_zero, List.getD_cons_succ, List.getD_nil, cond_true, cond_false, Act.put, List.setIfInBounds_toArray, List.set_cons_zero, List.set_cons_succ] at hb
          subst hb
          rw [if_pos (by rfl)]
          go_wp2_with fail
          exact hK.out _ _ ⟨_, rfl, hS, rfl, AllP.same _⟩
        refine RelySteps.cons (RelyStep.mk [2, 3] [0, 6, 7, 8, 9, 10, 11, 12, 13, 14, 15, 16, 17, 18, 19, 20, 21] rfl rfl rfl (fun xv wS hS hV bq hb K hK => ?_)) ?_
        · obtain ⟨h2, h3, _⟩ := hV
          have h2 : xv 2 = _ := h2
          have h3 : xv 3 = _ := h3
          simp only [putsOf, List.foldl_cons, List.foldl_nil, List.getD_cons_zero, List.getD_cons_succ, List.getD_nil, cond_true, cond_false, Act.put, List.setIfInBounds_toArray, List.set_cons_zero, List.set_cons_succ, h2, h3] at hb
          clear h2
          clear h3
          subst hb
          rw [if_pos (by rfl)]
          go_wp2_with fail
          exact hK.out _ _ ⟨_, rfl, hS, rfl, AllP.same _⟩
        refine RelySteps.cons (RelyStep.mk [4] [0, 7, 8, 9, 10, 11, 12, 13, 14, 15, 16, 17, 18, 19, 20, 21] rfl rfl rfl (fun xv wS hS hV bq hb K hK => ?_)) ?_
        · obtain ⟨h4, _⟩ := hV
          have h4 : xv 4 = _ := h4
          simp only [putsOf, List.foldl_cons, List.foldl_nil, List.getD_cons_zero, List.getD_cons_succ, List.getD_nil, cond_true, cond_false, Act.put, List.setIfInBounds_toArray, List.set_cons_zero, List.set_cons_succ, h4] at hb
          clear h4
          subst hb
          rw [if_pos (by rfl)]
          go_wp2_with fail
          exact hK.out _ _ ⟨_, rfl, hS, rfl, AllP.same _⟩
        refine RelySteps.cons (RelyStep.mk [5] [0, 1, 7, 8, 9, 10, 11, 12, 13, 14, 15, 16, 17, 18, 20, 21] rfl rfl rfl (fun xv wS hS hV bq hb K hK => ?_)) ?_
        · obtain ⟨h5, _⟩ := hV
          have h5 : xv 5 = _ := h5
          simp only [putsOf, List.foldl_cons, List.foldl_nil, List.getD_cons_zero, List.getD_cons_succ, List.getD_nil, cond_true, cond_false, Act.put, List.setIfInBounds_toArray, List.set_cons_zero, List.set_cons_succ, h5] at hb
          clear h5
          subst hb
          rw [if_pos (by rfl)]
          (have g0 := (hS.cell (p := ⟨b, off + i * 3 + 0, none⟩) hbl).trans HG0.out; rw [Nat.add_zero] at g0; have gl : b < wS.heap.size := Nat.lt_of_lt_of_le hbl hS.size)
          go_wp2_with fail
          exact hK.out _ _ ⟨_, rfl, hS, rfl, AllP.same _⟩
        refine RelySteps.cons (RelyStep.mk [] [0, 1, 2, 3, 4, 5, 6, 9, 10, 11, 12, 13, 14, 15, 16, 17, 18, 19, 20, 21] rfl rfl rfl (fun xv wS hS hV bq hb K hK => ?_)) ?_
        · clear hV
          simp only [putsOf, List.foldl_cons, List.foldl_nil, List.getD_cons_zero, List.getD_cons_succ, List.getD_nil, cond_true, cond_false, Act.put, List.setIfInBounds_toArray, List.set_cons_zero, List.set_cons_succ] at hb
          subst hb
          rw [if_pos (by rfl)]
          go_wp2_with fail
          exact hK.out _ _ ⟨_, rfl, hS, rfl, AllP.same _⟩
        refine RelySteps.cons (RelyStep.mk [7] [0, 1, 2, 3, 4, 5, 6, 9, 11, 12, 13, 14, 15, 16, 17, 18, 19, 20, 21] rfl rfl rfl (fun xv wS hS hV bq hb K hK => ?_)) ?_
        · obtain ⟨h7, _⟩ := hV
          have h7 : xv 7 = _ := h7
          simp only [putsOf, List.foldl_cons, List.foldl_nil, List.getD_cons_zero, List.getD_cons_succ, List.getD_nil, cond_true, cond_false, Act.put, List.setIfInBounds_toArray, List.set_cons_zero, List.set_cons_succ, h7] at hb
          clear h7
          subst hb
          rw [if_pos (by rfl)]
          (have q1 := HCB.out _ hS; have c0 := (q1.cell 0).trans (show _ = some (Value.slice (some ⟨b, off, none⟩) p.rs.length c) from rfl); have c2 := q1.lt; clear q1)
          go_wp2_with fail
          exact hK.out _ _ ⟨_, rfl, hS, rfl, AllP.same _⟩
        refine RelySteps.cons (RelyStep.mk [] [0, 1, 2, 3, 4, 5, 6, 7, 8, 11, 12, 13, 14, 15, 16, 17, 18, 19, 20, 21] rfl rfl rfl (fun xv wS hS hV bq hb K hK => ?_)) ?_
        · clear hV
          simp only [putsOf, List.foldl_cons, List.foldl_nil, List.getD_cons_zero, List.getD_cons_succ, List.getD_nil, cond_true, cond_false, Act.put, List.setIfInBounds_toArray, List.set_cons_zero, List.set_cons_succ] at hb
          subst hb
          rw [if_pos (by rfl)]
          go_wp2_with fail
          exact hK.out _ _ ⟨_, rfl, hS, rfl, AllP.same _⟩
        refine RelySteps.cons (RelyStep.mk [8, 9] [0, 1, 2, 3, 4, 5, 6, 12, 13, 14, 15, 16, 17, 18, 19, 20, 21] rfl rfl rfl (fun xv wS hS hV bq hb K hK => ?_)) ?_
        · obtain ⟨h8, h9, _⟩ := hV
          have h8 : xv 8 = _ := h8
          have h9 : xv 9 = _ := h9
          simp only [putsOf, List.foldl_cons, List.foldl_nil, List.getD_cons_zero, List.getD_cons_succ, List.getD_nil, cond_true, cond_false, Act.put, List.setIfInBounds_toArray, List.set_cons_zero, List.set_cons_succ, h8, h9] at hb
          clear h8
          clear h9
          subst hb
          rw [if_pos (by rfl)]
          go_wp2_with fail
          exact hK.out _ _ ⟨_, rfl, hS, rfl, AllP.same _⟩
        refine RelySteps.cons (RelyStep.mk [10] [0, 1, 2, 3, 4, 5, 6, 13, 14, 15, 16, 17, 18, 19, 20, 21] rfl rfl rfl (fun xv wS hS hV bq hb K hK => ?_)) ?_
        · obtain ⟨h10, _⟩ := hV
          have h10 : xv 10 = _ := h10
          simp only [putsOf, List.foldl_cons, List.foldl_nil, List.getD_cons_zero, List.getD_cons_succ, List.getD_nil, cond_true, cond_false, Act.put, List.setIfInBounds_toArray, List.set_cons_zero, List.set_cons_succ, h10] at hb
          clear h10
          subst hb
          rw [if_pos (by rfl)]
          go_wp2_with fail
          exact hK.out _ _ ⟨_, rfl, hS, rfl, AllP.same _⟩
        refine RelySteps.cons (RelyStep.mk [11] [0, 1, 2, 3, 4, 5, 6, 7, 13, 14, 15, 16, 17, 18, 20, 21] rfl rfl rfl (fun xv wS hS hV bq hb K hK => ?_)) ?_
        · obtain ⟨h11, _⟩ := hV
          have h11 : xv 11 = _ := h11
          simp only [putsOf, List.foldl_cons, List.foldl_nil, List.getD_cons_zero, List.getD_cons_succ, List.getD_nil, cond_true, cond_false, Act.put, List.setIfInBounds_toArray, List.set_cons_zero, List.set_cons_succ, h11] at hb
          clear h11
          subst hb
          rw [if_pos (by rfl)]
          (have g0 := (hS.cell (p := ⟨b, off + i * 3 + 1, none⟩) hbl).trans HG1.out; have gl : b < wS.heap.size := Nat.lt_of_lt_of_le hbl hS.size)
          go_wp2_with fail
          exact hK.out _ _ ⟨_, rfl, hS, rfl, AllP.same _⟩
        refine RelySteps.cons (RelyStep.mk [] [0, 1, 2, 3, 4, 5, 6, 7, 8, 9, 10, 11, 12, 15, 16, 17, 18, 19, 20, 21] rfl rfl rfl (fun xv wS hS hV bq hb K hK => ?_)) ?_
        · clear hV
          simp only [putsOf, List.foldl_cons, List.foldl_nil, List.getD_cons_zero, List.getD_cons_succ, List.getD_nil, cond_true, cond_false, Act.put, List.setIfInBounds_toArray, List.set_cons_zero, List.set_cons_succ] at hb
          subst hb
          rw [if_pos (by rfl)]
          go_wp2_with fail
          exact hK.out _ _ ⟨_, rfl, hS, rfl, AllP.same _⟩
        refine RelySteps.cons (RelyStep.mk [13] [0, 1, 2, 3, 4, 5, 6, 7, 8, 9, 10, 11, 12, 15, 17, 18, 19, 20, 21] rfl rfl rfl (fun xv wS hS hV bq hb K hK => ?_)) ?_
        · obtain ⟨h13, _⟩ := hV
          have h13 : xv 13 = _ := h13
          simp only [putsOf, List.foldl_cons, List.foldl_nil, List.getD_cons_zero, List.getD_cons_succ, List.getD_nil, cond_true, cond_false, Act.put, List.setIfInBounds_toArray, List.set_cons_zero, List.set_cons_succ, h13] at hb
          clear h13
          subst hb
          rw [if_pos (by rfl)]
          (have q1 := HCB.out _ hS; have c0 := (q1.cell 0).trans (show _ = some (Value.slice (some ⟨b, off, none⟩) p.rs.length c) from rfl); have c2 := q1.lt; clear q1)
          go_wp2_with fail
          exact hK.out _ _ ⟨_, rfl, hS, rfl, AllP.same _⟩
        refine RelySteps.cons (RelyStep.mk [] [0, 1, 2, 3, 4, 5, 6, 7, 8, 9, 10, 11, 12, 13, 14, 17, 18, 19, 20, 21] rfl rfl rfl (fun xv wS hS hV bq hb K hK => ?_)) ?_
        · clear hV
          simp only [putsOf, List.foldl_cons, List.foldl_nil, List.getD_cons_zero, List.getD_cons_succ, List.getD_nil, cond_true, cond_false, Act.put, List.setIfInBounds_toArray, List.set_cons_zero, List.set_cons_succ] at hb
          subst hb
          rw [if_pos (by rfl)]
          go_wp2_with fail
          exact hK.out _ _ ⟨_, rfl, hS, rfl, AllP.same _⟩
        refine RelySteps.cons (RelyStep.mk [14, 15] [0, 1, 2, 3, 4, 5, 6, 7, 8, 9, 10, 11, 12, 18, 19, 20, 21] rfl rfl rfl (fun xv wS hS hV bq hb K hK => ?_)) ?_
        · obtain ⟨h14, h15, _⟩ := hV
          have h14 : xv 14 = _ := h14
          have h15 : xv 15 = _ := h15
          simp only [putsOf, List.foldl_cons, List.foldl_nil, List.getD_cons_zero, List.getD_cons_succ, List.getD_nil, cond_true, cond_false, Act.put, List.setIfInBounds_toArray, List.set_cons_zero, List.set_cons_succ, h14, h15] at hb
          clear h14
          clear h15
          subst hb
          rw [if_pos (by rfl)]
          go_wp2_with fail
          exact hK.out _ _ ⟨_, rfl, hS, rfl, AllP.same _⟩
        refine RelySteps.cons (RelyStep.mk [16] [0, 1, 2, 3, 4, 5, 6, 7, 8, 9, 10, 11, 12, 19, 20, 21] rfl rfl rfl (fun xv wS hS hV bq hb K hK => ?_)) ?_
        · obtain ⟨h16, _⟩ := hV
          have h16 : xv 16 = _ := h16
          simp only [putsOf, List.foldl_cons, List.foldl_nil, List.getD_cons_zero, List.getD_cons_succ, List.getD_nil, cond_true, cond_false, Act.put, List.setIfInBounds_toArray, List.set_cons_zero, List.set_cons_succ, h16] at hb
          clear h16
          subst hb
          rw [if_pos (by rfl)]
          go_wp2_with fail
          exact hK.out _ _ ⟨_, rfl, hS, rfl, AllP.same _⟩
        refine RelySteps.cons (RelyStep.mk [17] [0, 1, 2, 3, 4, 5, 6, 7, 8, 9, 10, 11, 12, 13, 20, 21] rfl rfl rfl (fun xv wS hS hV bq hb K hK => ?_)) ?_
        · obtain ⟨h17, _⟩ := hV
          have h17 : xv 17 = _ := h17
          simp only [putsOf, List.foldl_cons, List.foldl_nil, List.getD_cons_zero, List.getD_cons_succ, List.getD_nil, cond_true, cond_false, Act.put, List.setIfInBounds_toArray, List.set_cons_zero, List.set_cons_succ, h17] at hb
          clear h17
          subst hb
          rw [if_pos (by rfl)]
          (have g0 := (hS.cell (p := ⟨b, off + i * 3 + 2, none⟩) hbl).trans HG2.out; have gl : b < wS.heap.size := Nat.lt_of_lt_of_le hbl hS.size)
          go_wp2_with fail
          exact hK.out _ _ ⟨_, rfl, hS, rfl, AllP.same _⟩
        refine RelySteps.cons (RelyStep.mk [6, 12, 18] [0, 1, 2, 3, 7, 8, 9, 13, 14, 15, 21] rfl rfl rfl (fun xv wS hS hV bq hb K hK => ?_)) ?_
        · obtain ⟨h6, h12, h18, _⟩ := hV
          have h6 : xv 6 = _ := h6
          have h12 : xv 12 = _ := h12
          have h18 : xv 18 = _ := h18
          simp only [putsOf, List.foldl_cons, List.foldl_nil, List.getD_cons_zero, List.getD_cons_succ, List.getD_nil, cond_true, cond_false, Act.put, List.setIfInBounds_toArray, List.set_cons_zero, List.set_cons_succ, h6, h12, h18] at hb
          clear h6
          clear h12
          clear h18
          subst hb
          rw [if_pos (by rfl)]
          have HSS := Lib.hid hS
          clear hS
          go_wp2_with fail
          exact hK.out _ _ ⟨_, rfl, HSS.out.alloc HSS.out.size _, ⟨wS.heap.size, rfl, Lies.made _ _ _⟩, AllP.of _ (fun j _ u h => rpV_below ((Below.refl _ _).alloc (Nat.le_refl _) _) h)⟩
        refine RelySteps.cons (RelyStep.mk [19] [0, 1, 2, 3, 4, 7, 8, 9, 10, 13, 14, 15, 16] rfl rfl rfl (fun xv wS hS hV bq hb K hK => ?_)) ?_
        · obtain ⟨h19, _⟩ := hV
          simp only [putsOf, List.foldl_cons, List.foldl_nil, List.getD_cons_zero, List.getD_cons_succ, List.getD_nil, cond_true, cond_false, Act.put, List.setIfInBounds_toArray, List.set_cons_zero, List.set_cons_succ] at hb
          generalize xv 19 = y19 at *
          subst hb
          rw [if_pos (by rfl)]
          have HSS := Lib.hid hS
          obtain ⟨g, rfl, hl19⟩ := h19
          have HLL := Lib.hid hl19
          clear hS hl19
          go_wp2_with fail
          refine (rfBytes [r.k, r.c, r.r] g 3 wS rfl HLL.out (fun z hz => by have := HRR.out; simp at hz; omega) (by simp)).mono ?_
          rintro e w5 ⟨rfl, hb5⟩
          exact hK.out _ _ ⟨_, rfl, HSS.out.trans (hb5.mono HSS.out.size), rfl, AllP.of _ (fun j _ u h => rpV_below hb5 h)⟩
        refine RelySteps.cons (RelyStep.mk [0, 20] [1, 2, 3, 4, 5, 7, 8, 9, 10, 11, 13, 14, 15, 16, 17] rfl rfl rfl (fun xv wS hS hV bq hb K hK => ?_)) ?_
        · obtain ⟨h0, h20, _⟩ := hV
          have h0 : xv 0 = _ := h0
          have h20 : xv 20 = _ := h20
          simp only [putsOf, List.foldl_cons, List.foldl_nil, List.getD_cons_zero, List.getD_cons_succ, List.getD_nil, cond_true, cond_false, Act.put, List.setIfInBounds_toArray, List.set_cons_zero, List.set_cons_succ, h0, h20] at hb
          clear h0
          clear h20
          subst hb
          rw [if_pos (by rfl)]
          go_wp2_with fail
          exact hK.out _ _ ⟨_, rfl, hS, rfl, AllP.same _⟩
        refine RelySteps.cons (RelyStep.mk [21] [] rfl rfl rfl (fun xv wS hS hV bq hb K hK => ?_)) ?_
        · obtain ⟨h21, _⟩ := hV
          have h21 : xv 21 = _ := h21
          simp only [putsOf, List.foldl_cons, List.foldl_nil, List.getD_cons_zero, List.getD_cons_succ, List.getD_nil, cond_true, cond_false, Act.put, List.setIfInBounds_toArray, List.set_cons_zero, List.set_cons_succ, h21] at hb
          clear h21
          subst hb
          rw [if_pos (by rfl)]
          go_wp2_with fail
          exact hK.out _ _ ⟨_, rfl, hS, rfl, AllP.same _⟩
        exact RelySteps.nil
      case rE =>
        intro xv wE hS hV
        have h22 := hV 22 (by decide) (by decide)
        clear hV
        simp only [putsOf, List.foldl_cons, List.foldl_nil, List.getD_cons_zero, List.getD_cons_succ, List.getD_nil, cond_true, cond_false, Act.put, List.setIfInBounds_toArray, List.set_cons_zero, List.set_cons_succ]
        have h22 : xv 22 = _ := h22
        rw [h22]; clear h22
        generalize xv 0 = y0 at *
        generalize xv 1 = y1 at *
        generalize xv 2 = y2 at *
        generalize xv 3 = y3 at *
        generalize xv 4 = y4 at *
        generalize xv 5 = y5 at *
        generalize xv 6 = y6 at *
        generalize xv 7 = y7 at *
        generalize xv 8 = y8 at *
        generalize xv 9 = y9 at *
        generalize xv 10 = y10 at *
        generalize xv 11 = y11 at *
        generalize xv 12 = y12 at *
        generalize xv 13 = y13 at *
        generalize xv 14 = y14 at *
        generalize xv 15 = y15 at *
        generalize xv 16 = y16 at *
        generalize xv 17 = y17 at *
        generalize xv 18 = y18 at *
        generalize xv 19 = y19 at *
        generalize xv 20 = y20 at *
        generalize xv 21 = y21 at *
        have HB5 := Lib.hid (HB.out.trans (hS.mono HB.out.size))
        have HL5 := Lib.hid (HCB.out _ hS)
        clear hS HB HL HCB
        rw [HNX.out]
        go_wp2
        go_roundw
        case rel => exact ⟨i + 1, by omega, by go_num, rfl, HB5, HL5⟩
        case measure => simp [intOf]; omega
    · obtain rfl : i = p.rs.length := by omega
      rw [List.take_length]
      have HX0 : Hid (([bI (p.rs.length : Int)] ++ p.rs.flatMap riE).length ≤ 100) := by
        have := flat_le (f := riE) (m := 3) p.rs (fun _ _ => Nat.le_refl _)
        show _ ≤ _
        simp only [List.length_append, List.length_cons, List.length_nil]; omega
      have HPG : Hid (pgE p = ([bI (p.rs.length : Int)] ++ p.rs.flatMap riE) ++ [bI p.ts.length] ++ p.ts.flatMap thE) := rfl
      generalize [bI (p.rs.length : Int)] ++ p.rs.flatMap riE = X0 at *
      have c1 := (HL.out.cell 1).trans (show _ = some (Value.slice B p.ts.length d) from rfl)
      go_wp2_with fail
      refine (rfBytesLit [(p.ts.length : Int)] _ 1 _ wr rfl rfl rfl (fun z hz => by simp at hz; omega) (by simp)).mono ?_
      rintro e w6 ⟨rfl, hb6⟩
      have HB6 := Lib.hid (HB.out.trans (hb6.mono HB.out.size))
      have HL6 := Lib.hid (HL.out.below hb6 HL.out.lt)
      have HX : Hid (textB X0 ++ textB ([(p.ts.length : Int)].map bI) = textB (X0 ++ [bI (p.ts.length : Int)] ++ (p.ts.take 0).flatMap thE)) := by show _ = _; rw [text_append]; simp
      have e9 : ¬ 9223372036854775807 < (textB X0).size + (textB ([(p.ts.length : Int)].map bI)).size := by
        rw [textB_size, textB_size]
        have := HX0.out
        simp only [List.length_map, List.length_cons, List.length_nil]; omega
      clear hb6 HB HL c0 c1 cl
      rw [show textB ([(p.ts.length : Int)].map bI) = textB [bI (p.ts.length : Int)] from rfl] at e9 HX ⊢
      go_wp2_with fail
      rw [HX.out]
      clear e9 HX
      go_loopw [5, 3] (fun u s wr => ∃ t : Nat, t ≤ p.ts.length ∧ u = .int .i64 t ∧ s = .string (textB (X0 ++ [bI (p.ts.length : Int)] ++ (p.ts.take t).flatMap thE)) ∧ Hid (Below w.heap.size w wr) ∧ Hid (Lies wr w.heap.size 35 (pgC A c B d p))) (fun u _ _ => p.ts.length - (intOf u).toNat)
      case atStart => exact ⟨0, by omega, rfl, rfl, HB6, HL6⟩
      case round =>
        clear HB6 HL6
        obtain ⟨t, ht, rfl, rfl, HB, HL⟩ := hrel
        have c1 := (HL.out.cell 1).trans (show _ = some (Value.slice B p.ts.length d) from rfl)
        have cl := HL.out.lt
        by_cases hlt : t < p.ts.length
        · have hii : (t : Int) < (p.ts.length : Int) := by omega
          obtain ⟨l, hl⟩ : ∃ l, p.ts[t]? = some l := ⟨_, List.getElem?_eq_getElem hlt⟩
          obtain ⟨b, off, B2, d2, rfl, g0w, hil⟩ := HH.out.2.at_ hl
          obtain ⟨hc3, hc4⟩ := seq_form hil
          have HG := Lib.hid (fun wx (hx : Below w.heap.size w wx) => (hx.cell (p := ⟨b, off + t, none⟩) (World.block_lt_of_cell? w _ g0w)).trans g0w)
          have g0 := HG.out _ HB.out
          have gl := World.block_lt_of_cell? _ _ g0
          obtain ⟨h256, hrx⟩ := HTH.out l (List.mem_of_getElem? hl)
          have HIL := Lib.hid hil
          have HRX := Lib.hid hrx
          have HNX : Hid (X0 ++ [bI (p.ts.length : Int)] ++ (p.ts.take t).flatMap thE ++ (enc l.length ++ l.flatMap inE) = X0 ++ [bI p.ts.length] ++ (p.ts.take (t + 1)).flatMap thE) := by
            show _ = _
            rw [flat_next thE hl, List.append_assoc (X0 ++ [bI (p.ts.length : Int)])]; rfl
          have hln : (X0 ++ [bI (p.ts.length : Int)] ++ (p.ts.take t).flatMap thE).length ≤ 100000 := by
            have := flat_le (f := thE) (m := 3850) (p.ts.take t) (fun q hq => by
              obtain ⟨h1, _⟩ := HTH.out q (List.mem_of_mem_take hq)
              have h2 := (enc_length q.length).2
              have h3 := flat_le (f := inE) (m := 15) q (fun x _ => by
                have := (enc_length x.k).2
                unfold inE
                simp only [List.length_append, List.length_cons, List.length_nil]; omega)
              unfold thE
              rw [List.length_append]; omega)
            rw [List.length_take] at this
            have := HX0.out
            simp only [List.length_append, List.length_cons, List.length_nil]; omega
          generalize X0 ++ [bI (p.ts.length : Int)] ++ (p.ts.take t).flatMap thE = X1 at *
          have hv := fun w => refPrint l.length w (by unfold M64; omega)
          have hel := enc_length l.length
          have HV := Lib.hid hv
          have HXX : Hid (textB X1 ++ textB (enc l.length) = textB (X1 ++ enc l.length)) := text_append _ _
          have e9 : ¬ 9223372036854775807 < (textB X1).size + (textB (enc l.length)).size := by
            rw [textB_size, textB_size]; omega
          have HXL : Hid ((X1 ++ enc l.length).length ≤ 100010) := by
            show _ ≤ _
            rw [List.length_append]; omega
          have HNX2 : Hid (∀ t, X1 ++ (enc l.length ++ t) = X1 ++ enc l.length ++ t) := fun t => (List.append_assoc _ _ _).symm
          rw [HNX2.out] at HNX
          clear hil hrx hl hv g0w HNX2 hel hln
          have hU : IntKind.u64.wrap (l.length : Int) = (l.length : Int) := IntWalk.u64_in _ (by omega)
          go_wp2_with fail
          refine (HV.out _).mono ?_
          rintro e w7 ⟨rfl, hb7⟩
          have HB7 := Lib.hid (HB.out.trans (hb7.mono HB.out.size))
          have HL7 := Lib.hid (HL.out.below hb7 HL.out.lt)
          clear hb7 g0 gl HB HL HV c1 cl
          go_wp2_with fail
          rw [HXX.out]
          clear e9 HXX
          generalize X1 ++ enc l.length = X2 at *
          go_loopw [6, 3] (fun u s wr => ∃ k : Nat, k ≤ l.length ∧ u = .int .i64 k ∧ s = .string (textB (X2 ++ (l.take k).flatMap inE)) ∧ Hid (Below w.heap.size w wr) ∧ Hid (Lies wr w.heap.size 35 (pgC A c (some ⟨b, off, none⟩) d p))) (fun u _ _ => l.length - (intOf u).toNat)
          case atStart => exact ⟨0, by omega, rfl, by simp, HB7, HL7⟩
          case round =>
            clear HB7 HL7
            obtain ⟨k, hk, rfl, rfl, HB, HL⟩ := hrel
            have c1 := (HL.out.cell 1).trans (show _ = some (Value.slice (some ⟨b, off, none⟩) p.ts.length d) from rfl)
            have cl := HL.out.lt
            have g0 := HG.out _ HB.out
            have gl := World.block_lt_of_cell? _ _ g0
            by_cases hkl : k < l.length
            · have hkk : (k : Int) < (l.length : Int) := by omega
              obtain ⟨x, hx⟩ : ∃ x, l[k]? = some x := ⟨_, List.getElem?_eq_getElem hkl⟩
              obtain ⟨b3, off3, rfl, _, hg⟩ := InsAt.at_ (HIL.out.later HB.out) hx
              have y0 := hg 0 _ (by decide) rfl
              have y1 := hg 1 _ (by decide) rfl
              have y2 := hg 2 _ (by decide) rfl
              have y3 := hg 3 _ (by decide) rfl
              have y4 := hg 4 _ (by decide) rfl
              have y5 := hg 5 _ (by decide) rfl
              rw [Nat.add_zero] at y0
              have hxb := right_bytes (HRX.out x (List.mem_of_getElem? hx))
              have hbx : Below wr.heap.size wr (wr.alloc (.cells (inC x) 24)) := (Below.refl _ _).alloc (Nat.le_refl _) _
              have HB2 := Lib.hid (HB.out.trans (hbx.mono HB.out.size))
              have HL2 := Lib.hid (HL.out.below hbx HL.out.lt)
              have HLX := Lib.hid (Lies.made wr 24 (inC x))
              have HNX3 : Hid (textB (X2 ++ (l.take k).flatMap inE) ++ (textB (in5 x) ++ textB (enc x.k)) = textB (X2 ++ (l.take (k + 1)).flatMap inE)) := by
                show _ = _
                rw [flat_next inE hx, text_append, text_append, List.append_assoc]; rfl
              have hel := (enc_length x.k).2
              have hln : (X2 ++ (l.take k).flatMap inE).length ≤ 200000 := by
                have := flat_le (f := inE) (m := 15) (l.take k) (fun x _ => by
                  have := (enc_length x.k).2
                  unfold inE
                  simp only [List.length_append, List.length_cons, List.length_nil]; omega)
                rw [List.length_take] at this
                have := HXL.out
                rw [List.length_append]; omega
              generalize X2 ++ (l.take k).flatMap inE = X3 at *
              have h5 : (textB (in5 x)).size = 5 := by rw [textB_size]; rfl
              have e9 : ¬ 9223372036854775807 < (textB (in5 x)).size + (textB (enc x.k)).size := by
                rw [h5, textB_size]; omega
              have e10 : ¬ 9223372036854775807 < (textB X3).size + (textB (in5 x) ++ textB (enc x.k)).size := by
                rw [ByteArray.size_append, h5, textB_size, textB_size]; omega
              have e11 : ¬ 9223372036854775807 < (textB X3).size + ((textB (in5 x)).size + (textB (enc x.k)).size) := by
                rw [h5, textB_size, textB_size]; omega
              have hv := fun w => refPrint x.k w (by unfold M64; omega)
              have HV := Lib.hid hv
              have HXB := Lib.hid hxb
              have HE9 := Lib.hid e9
              have HE10 := Lib.hid e10
              have HE11 := Lib.hid e11
              clear hg hx hbx HB HL hel hln h5 hv hxb e9 e10 e11
              go_wp2_with fail
              clear y0 y1 y2 y3 y4 y5 c1 cl g0 gl
              generalize wr.alloc (.cells (inC x) 24) = wx at *
              generalize wr.heap.size = M at *
              have HCB := Lib.hid (fun q (hq : Below wx.heap.size wx q) => HLX.out.below hq HLX.out.lt)
              refine wp_region_rely (fun q => Below wx.heap.size wx q) (rxV M X3 x) [some 84, some 85, some 86, some 87, some 88, some 89, some 90, some 91, some 92, some 93, some 94, some 95, some 96, some 97, some 98, some 99, some 100, some 101, some 3] [[], [], [1], [], [3], [], [5], [], [7], [], [9], [2, 4, 6, 8, 10], [11], [], [13], [14], [12, 15], [0, 16], [17]] [[], [], [1], [], [3], [], [5], [], [7], [], [9], [1, 2, 3, 4, 5, 6, 7, 8, 9, 10], [2, 4, 6, 8, 10, 11], [], [13], [11, 13, 14], [11, 12, 14, 15], [0, 12, 15, 16], [0, 1, 2, 3, 4, 5, 6, 7, 8, 9, 10, 11, 12, 13, 14, 15, 16, 17]] [[1, 2, 3, 4, 5, 6, 7, 8, 9, 10, 11, 12, 13, 14, 15, 16], [0, 3, 4, 5, 6, 7, 8, 9, 10, 11, 12, 13, 14, 15, 16, 17], [0, 3, 4, 5, 6, 7, 8, 9, 10, 12, 13, 14, 15, 16, 17], [0, 1, 2, 5, 6, 7, 8, 9, 10, 11, 12, 13, 14, 15, 16, 17], [0, 1, 2, 5, 6, 7, 8, 9, 10, 12, 13, 14, 15, 16, 17], [0, 1, 2, 3, 4, 7, 8, 9, 10, 11, 12, 13, 14, 15, 16, 17], [0, 1, 2, 3, 4, 7, 8, 9, 10, 12, 13, 14, 15, 16, 17], [0, 1, 2, 3, 4, 5, 6, 9, 10, 11, 12, 13, 14, 15, 16, 17], [0, 1, 2, 3, 4, 5, 6, 9, 10, 12, 13, 14, 15, 16, 17], [0, 1, 2, 3, 4, 5, 6, 7, 8, 11, 12, 13, 14, 15, 16, 17], [0, 1, 2, 3, 4, 5, 6, 7, 8, 12, 13, 14, 15, 16, 17], [0, 13, 14, 15, 16, 17], [0, 13, 14, 17], [0, 1, 2, 3, 4, 5, 6, 7, 8, 9, 10, 11, 12, 15, 16, 17], [0, 1, 2, 3, 4, 5, 6, 7, 8, 9, 10, 11, 12, 16, 17], [0, 1, 3, 5, 7, 9, 12, 17], [0, 1, 3, 5, 7, 9], [1, 2, 3, 4, 5, 6, 7, 8, 9, 10, 13], []] [0, 1, 2, 3, 4, 5, 6, 7, 8, 9, 10, 11, 12, 13, 14, 15, 16, 17, 18] 19 (by kernel_rfl) (by kernel_rfl) (by kernel_rfl) (by kernel_rfl) ?rS (fun j h1 h2 => absurd (Nat.lt_of_lt_of_le h1 (Nat.le_trans (by decide) h2)) (Nat.lt_irrefl _)) ?rT ?rE
              case rS => exact below_drewN (Below.refl _ _) 1
              case rT =>
                refine RelySteps.cons (RelyStep.mk [] [1, 2, 3, 4, 5, 6, 7, 8, 9, 10, 11, 12, 13, 14, 15, 16] rfl rfl rfl (fun xv wS hS hV bq hb K hK => ?_)) ?_
                · clear hV
                  simp only [putsOf, List.foldl_cons, List.foldl_nil, List.getD_cons_zero, List.getD_cons_succ, List.getD_nil, cond_true, cond_false, Act.put, List.setIfInBounds_toArray, List.set_cons_zero, List.set_cons_succ] at hb
                  subst hb
                  rw [if_pos (by rfl)]
                  go_wp2_with fail
                  exact hK.out _ _ ⟨_, rfl, hS, rfl, AllP.same _⟩
                refine RelySteps.cons (RelyStep.mk [] [0, 3, 4, 5, 6, 7, 8, 9, 10, 11, 12, 13, 14, 15, 16, 17] rfl rfl rfl (fun xv wS hS hV bq hb K hK => ?_)) ?_
                · clear hV
                  simp only [putsOf, List.foldl_cons, List.foldl_nil, List.getD_cons_zero, List.getD_cons_succ, List.getD_nil, cond_true, cond_false, Act.put, List.setIfInBounds_toArray, List.set_cons_zero, List.set_cons_succ] at hb
                  subst hb
                  rw [if_pos (by rfl)]
                  go_wp2_with fail
                  exact hK.out _ _ ⟨_, rfl, hS, rfl, AllP.same _⟩
                refine RelySteps.cons (RelyStep.mk [1] [0, 3, 4, 5, 6, 7, 8, 9, 10, 12, 13, 14, 15, 16, 17] rfl rfl rfl (fun xv wS hS hV bq hb K hK => ?_)) ?_
                · obtain ⟨h1, _⟩ := hV
                  have h1 : xv 1 = _ := h1
                  simp only [putsOf, List.foldl_cons, List.foldl_nil, List.getD_cons_zero, List.getD_cons_succ, List.getD_nil, cond_true, cond_false, Act.put, List.setIfInBounds_toArray, List.set_cons_zero, List.set_cons_succ, h1] at hb
                  clear h1
                  subst hb
                  rw [if_pos (by rfl)]
                  (have q1 := HCB.out _ hS; have z0 := (q1.cell 0).trans (show _ = some (Value.int .i64 x.op) from rfl); have z1 := q1.lt; clear q1)
                  go_wp2_with fail
                  exact hK.out _ _ ⟨_, rfl, hS, rfl, AllP.same _⟩
                refine RelySteps.cons (RelyStep.mk [] [0, 1, 2, 5, 6, 7, 8, 9, 10, 11, 12, 13, 14, 15, 16, 17] rfl rfl rfl (fun xv wS hS hV bq hb K hK => ?_)) ?_
                · clear hV
                  simp only [putsOf, List.foldl_cons, List.foldl_nil, List.getD_cons_zero, List.getD_cons_succ, List.getD_nil, cond_true, cond_false, Act.put, List.setIfInBounds_toArray, List.set_cons_zero, List.set_cons_succ] at hb
                  subst hb
                  rw [if_pos (by rfl)]
                  go_wp2_with fail
                  exact hK.out _ _ ⟨_, rfl, hS, rfl, AllP.same _⟩
                refine RelySteps.cons (RelyStep.mk [3] [0, 1, 2, 5, 6, 7, 8, 9, 10, 12, 13, 14, 15, 16, 17] rfl rfl rfl (fun xv wS hS hV bq hb K hK => ?_)) ?_
                · obtain ⟨h3, _⟩ := hV
                  have h3 : xv 3 = _ := h3
                  simp only [putsOf, List.foldl_cons, List.foldl_nil, List.getD_cons_zero, List.getD_cons_succ, List.getD_nil, cond_true, cond_false, Act.put, List.setIfInBounds_toArray, List.set_cons_zero, List.set_cons_succ, h3] at hb
                  clear h3
                  subst hb
                  rw [if_pos (by rfl)]
                  (have q1 := HCB.out _ hS; have z0 := (q1.cell 1).trans (show _ = some (Value.int .i64 x.a) from rfl); have z1 := q1.lt; clear q1)
                  go_wp2_with fail
                  exact hK.out _ _ ⟨_, rfl, hS, rfl, AllP.same _⟩
                refine RelySteps.cons (RelyStep.mk [] [0, 1, 2, 3, 4, 7, 8, 9, 10, 11, 12, 13, 14, 15, 16, 17] rfl rfl rfl (fun xv wS hS hV bq hb K hK => ?_)) ?_
                · clear hV
                  simp only [putsOf, List.foldl_cons, List.foldl_nil, List.getD_cons_zero, List.getD_cons_succ, List.getD_nil, cond_true, cond_false, Act.put, List.setIfInBounds_toArray, List.set_cons_zero, List.set_cons_succ] at hb
                  subst hb
                  rw [if_pos (by rfl)]
                  go_wp2_with fail
                  exact hK.out _ _ ⟨_, rfl, hS, rfl, AllP.same _⟩
                refine RelySteps.cons (RelyStep.mk [5] [0, 1, 2, 3, 4, 7, 8, 9, 10, 12, 13, 14, 15, 16, 17] rfl rfl rfl (fun xv wS hS hV bq hb K hK => ?_)) ?_
                · obtain ⟨h5, _⟩ := hV
                  have h5 : xv 5 = _ := h5
                  simp only [putsOf, List.foldl_cons, List.foldl_nil, List.getD_cons_zero, List.getD_cons_succ, List.getD_nil, cond_true, cond_false, Act.put, List.setIfInBounds_toArray, List.set_cons_zero, List.set_cons_succ, h5] at hb
                  clear h5
                  subst hb
                  rw [if_pos (by rfl)]
                  (have q1 := HCB.out _ hS; have z0 := (q1.cell 2).trans (show _ = some (Value.int .i64 x.b) from rfl); have z1 := q1.lt; clear q1)
                  go_wp2_with fail
                  exact hK.out _ _ ⟨_, rfl, hS, rfl, AllP.same _⟩
                refine RelySteps.cons (RelyStep.mk [] [0, 1, 2, 3, 4, 5, 6, 9, 10, 11, 12, 13, 14, 15, 16, 17] rfl rfl rfl (fun xv wS hS hV bq hb K hK => ?_)) ?_
                · clear hV
                  simp only [putsOf, List.foldl_cons, List.foldl_nil, List.getD_cons_zero, List.getD_cons_succ, List.getD_nil, cond_true, cond_false, Act.put, List.setIfInBounds_toArray, List.set_cons_zero, List.set_cons_succ] at hb
                  subst hb
                  rw [if_pos (by rfl)]
                  go_wp2_with fail
                  exact hK.out _ _ ⟨_, rfl, hS, rfl, AllP.same _⟩
                refine RelySteps.cons (RelyStep.mk [7] [0, 1, 2, 3, 4, 5, 6, 9, 10, 12, 13, 14, 15, 16, 17] rfl rfl rfl (fun xv wS hS hV bq hb K hK => ?_)) ?_
                · obtain ⟨h7, _⟩ := hV
                  have h7 : xv 7 = _ := h7
                  simp only [putsOf, List.foldl_cons, List.foldl_nil, List.getD_cons_zero, List.getD_cons_succ, List.getD_nil, cond_true, cond_false, Act.put, List.setIfInBounds_toArray, List.set_cons_zero, List.set_cons_succ, h7] at hb
                  clear h7
                  subst hb
                  rw [if_pos (by rfl)]
                  (have q1 := HCB.out _ hS; have z0 := (q1.cell 3).trans (show _ = some (Value.int .i64 x.c) from rfl); have z1 := q1.lt; clear q1)
                  go_wp2_with fail
                  exact hK.out _ _ ⟨_, rfl, hS, rfl, AllP.same _⟩
                refine RelySteps.cons (RelyStep.mk [] [0, 1, 2, 3, 4, 5, 6, 7, 8, 11, 12, 13, 14, 15, 16, 17] rfl rfl rfl (fun xv wS hS hV bq hb K hK => ?_)) ?_
                · clear hV
                  simp only [putsOf, List.foldl_cons, List.foldl_nil, List.getD_cons_zero, List.getD_cons_succ, List.getD_nil, cond_true, cond_false, Act.put, List.setIfInBounds_toArray, List.set_cons_zero, List.set_cons_succ] at hb
                  subst hb
                  rw [if_pos (by rfl)]
                  go_wp2_with fail
                  exact hK.out _ _ ⟨_, rfl, hS, rfl, AllP.same _⟩
                refine RelySteps.cons (RelyStep.mk [9] [0, 1, 2, 3, 4, 5, 6, 7, 8, 12, 13, 14, 15, 16, 17] rfl rfl rfl (fun xv wS hS hV bq hb K hK => ?_)) ?_
                · obtain ⟨h9, _⟩ := hV
                  have h9 : xv 9 = _ := h9
                  simp only [putsOf, List.foldl_cons, List.foldl_nil, List.getD_cons_zero, List.getD_cons_succ, List.getD_nil, cond_true, cond_false, Act.put, List.setIfInBounds_toArray, List.set_cons_zero, List.set_cons_succ, h9] at hb
                  clear h9
                  subst hb
                  rw [if_pos (by rfl)]
                  (have q1 := HCB.out _ hS; have z0 := (q1.cell 4).trans (show _ = some (Value.int .i64 x.d) from rfl); have z1 := q1.lt; clear q1)
                  go_wp2_with fail
                  exact hK.out _ _ ⟨_, rfl, hS, rfl, AllP.same _⟩
                refine RelySteps.cons (RelyStep.mk [2, 4, 6, 8, 10] [0, 13, 14, 15, 16, 17] rfl rfl rfl (fun xv wS hS hV bq hb K hK => ?_)) ?_
                · obtain ⟨h2, h4, h6, h8, h10, _⟩ := hV
                  have h2 : xv 2 = _ := h2
                  have h4 : xv 4 = _ := h4
                  have h6 : xv 6 = _ := h6
                  have h8 : xv 8 = _ := h8
                  have h10 : xv 10 = _ := h10
                  simp only [putsOf, List.foldl_cons, List.foldl_nil, List.getD_cons_zero, List.getD_cons_succ, List.getD_nil, cond_true, cond_false, Act.put, List.setIfInBounds_toArray, List.set_cons_zero, List.set_cons_succ, h2, h4, h6, h8, h10] at hb
                  clear h2
                  clear h4
                  clear h6
                  clear h8
                  clear h10
                  subst hb
                  rw [if_pos (by rfl)]
                  have HSS := Lib.hid hS
                  clear hS
                  go_wp2_with fail
                  exact hK.out _ _ ⟨_, rfl, HSS.out.alloc HSS.out.size _, ⟨wS.heap.size, rfl, Lies.made _ _ _⟩, AllP.of _ (fun j _ u h => rxV_below ((Below.refl _ _).alloc (Nat.le_refl _) _) h)⟩
                refine RelySteps.cons (RelyStep.mk [11] [0, 13, 14, 17] rfl rfl rfl (fun xv wS hS hV bq hb K hK => ?_)) ?_
                · obtain ⟨h11, _⟩ := hV
                  simp only [putsOf, List.foldl_cons, List.foldl_nil, List.getD_cons_zero, List.getD_cons_succ, List.getD_nil, cond_true, cond_false, Act.put, List.setIfInBounds_toArray, List.set_cons_zero, List.set_cons_succ] at hb
                  generalize xv 11 = y11 at *
                  subst hb
                  rw [if_pos (by rfl)]
                  have HSS := Lib.hid hS
                  obtain ⟨g, rfl, hl19⟩ := h11
                  have HLL := Lib.hid hl19
                  clear hS hl19
                  go_wp2_with fail
                  refine (rfBytes [x.op, x.a, x.b, x.c, x.d] g 5 wS rfl HLL.out (fun z hz => by have := HXB.out; simp at hz; omega) (by simp)).mono ?_
                  rintro e w5 ⟨rfl, hb5⟩
                  exact hK.out _ _ ⟨_, rfl, HSS.out.trans (hb5.mono HSS.out.size), rfl, AllP.of _ (fun j _ u h => rxV_below hb5 h)⟩
                refine RelySteps.cons (RelyStep.mk [] [0, 1, 2, 3, 4, 5, 6, 7, 8, 9, 10, 11, 12, 15, 16, 17] rfl rfl rfl (fun xv wS hS hV bq hb K hK => ?_)) ?_
                · clear hV
                  simp only [putsOf, List.foldl_cons, List.foldl_nil, List.getD_cons_zero, List.getD_cons_succ, List.getD_nil, cond_true, cond_false, Act.put, List.setIfInBounds_toArray, List.set_cons_zero, List.set_cons_succ] at hb
                  subst hb
                  rw [if_pos (by rfl)]
                  go_wp2_with fail
                  exact hK.out _ _ ⟨_, rfl, hS, rfl, AllP.same _⟩
                refine RelySteps.cons (RelyStep.mk [13] [0, 1, 2, 3, 4, 5, 6, 7, 8, 9, 10, 11, 12, 16, 17] rfl rfl rfl (fun xv wS hS hV bq hb K hK => ?_)) ?_
                · obtain ⟨h13, _⟩ := hV
                  have h13 : xv 13 = _ := h13
                  simp only [putsOf, List.foldl_cons, List.foldl_nil, List.getD_cons_zero, List.getD_cons_succ, List.getD_nil, cond_true, cond_false, Act.put, List.setIfInBounds_toArray, List.set_cons_zero, List.set_cons_succ, h13] at hb
                  clear h13
                  subst hb
                  rw [if_pos (by rfl)]
                  (have q1 := HCB.out _ hS; have z0 := (q1.cell 5).trans (show _ = some (Value.int .u64 (x.k : Int)) from rfl); have z1 := q1.lt; clear q1)
                  go_wp2_with fail
                  exact hK.out _ _ ⟨_, rfl, hS, rfl, AllP.same _⟩
                refine RelySteps.cons (RelyStep.mk [14] [0, 1, 3, 5, 7, 9, 12, 17] rfl rfl rfl (fun xv wS hS hV bq hb K hK => ?_)) ?_
                · obtain ⟨h14, _⟩ := hV
                  have h14 : xv 14 = _ := h14
                  simp only [putsOf, List.foldl_cons, List.foldl_nil, List.getD_cons_zero, List.getD_cons_succ, List.getD_nil, cond_true, cond_false, Act.put, List.setIfInBounds_toArray, List.set_cons_zero, List.set_cons_succ, h14] at hb
                  clear h14
                  subst hb
                  rw [if_pos (by rfl)]
                  have HSS := Lib.hid hS
                  clear hS
                  go_wp2_with fail
                  refine (HV.out wS).mono ?_
                  rintro e w5 ⟨rfl, hb5⟩
                  exact hK.out _ _ ⟨_, rfl, HSS.out.trans (hb5.mono HSS.out.size), rfl, AllP.of _ (fun j _ u h => rxV_below hb5 h)⟩
                refine RelySteps.cons (RelyStep.mk [12, 15] [0, 1, 3, 5, 7, 9] rfl rfl rfl (fun xv wS hS hV bq hb K hK => ?_)) ?_
                · obtain ⟨h12, h15, _⟩ := hV
                  have h12 : xv 12 = _ := h12
                  have h15 : xv 15 = _ := h15
                  simp only [putsOf, List.foldl_cons, List.foldl_nil, List.getD_cons_zero, List.getD_cons_succ, List.getD_nil, cond_true, cond_false, Act.put, List.setIfInBounds_toArray, List.set_cons_zero, List.set_cons_succ, h12, h15] at hb
                  clear h12
                  clear h15
                  subst hb
                  rw [if_pos (by rfl)]
                  (have e9 := HE9.out)
                  go_wp2_with fail
                  exact hK.out _ _ ⟨_, rfl, hS, rfl, AllP.same _⟩
                refine RelySteps.cons (RelyStep.mk [0, 16] [1, 2, 3, 4, 5, 6, 7, 8, 9, 10, 13] rfl rfl rfl (fun xv wS hS hV bq hb K hK => ?_)) ?_
                · obtain ⟨h0, h16, _⟩ := hV
                  have h0 : xv 0 = _ := h0
                  have h16 : xv 16 = _ := h16
                  simp only [putsOf, List.foldl_cons, List.foldl_nil, List.getD_cons_zero, List.getD_cons_succ, List.getD_nil, cond_true, cond_false, Act.put, List.setIfInBounds_toArray, List.set_cons_zero, List.set_cons_succ, h0, h16] at hb
                  clear h0
                  clear h16
                  subst hb
                  rw [if_pos (by rfl)]
                  (have e9 := HE10.out; have e10 := HE11.out)
                  go_wp2_with fail
                  exact hK.out _ _ ⟨_, rfl, hS, rfl, AllP.same _⟩
                refine RelySteps.cons (RelyStep.mk [17] [] rfl rfl rfl (fun xv wS hS hV bq hb K hK => ?_)) ?_
                · obtain ⟨h17, _⟩ := hV
                  have h17 : xv 17 = _ := h17
                  simp only [putsOf, List.foldl_cons, List.foldl_nil, List.getD_cons_zero, List.getD_cons_succ, List.getD_nil, cond_true, cond_false, Act.put, List.setIfInBounds_toArray, List.set_cons_zero, List.set_cons_succ, h17] at hb
                  clear h17
                  subst hb
                  rw [if_pos (by rfl)]
                  go_wp2_with fail
                  exact hK.out _ _ ⟨_, rfl, hS, rfl, AllP.same _⟩
                exact RelySteps.nil
              case rE =>
                intro xv wE hS hV
                have h18 := hV 18 (by decide) (by decide)
                clear hV
                simp only [putsOf, List.foldl_cons, List.foldl_nil, List.getD_cons_zero, List.getD_cons_succ, List.getD_nil, cond_true, cond_false, Act.put, List.setIfInBounds_toArray, List.set_cons_zero, List.set_cons_succ]
                have h18 : xv 18 = _ := h18
                rw [h18]; clear h18
                generalize xv 0 = y0 at *
                generalize xv 1 = y1 at *
                generalize xv 2 = y2 at *
                generalize xv 3 = y3 at *
                generalize xv 4 = y4 at *
                generalize xv 5 = y5 at *
                generalize xv 6 = y6 at *
                generalize xv 7 = y7 at *
                generalize xv 8 = y8 at *
                generalize xv 9 = y9 at *
                generalize xv 10 = y10 at *
                generalize xv 11 = y11 at *
                generalize xv 12 = y12 at *
                generalize xv 13 = y13 at *
                generalize xv 14 = y14 at *
                generalize xv 15 = y15 at *
                generalize xv 16 = y16 at *
                generalize xv 17 = y17 at *
                have HB5 := Lib.hid (HB2.out.trans (hS.mono HB2.out.size))
                have HL5 := Lib.hid (HL2.out.below hS HL2.out.lt)
                clear hS HB2 HL2 HCB
                rw [HNX3.out]
                go_wp2
                go_roundw
                case rel => first | exact ⟨k + 1, by omega, by go_num, rfl, HB5, HL5⟩ | exact ⟨k + 1, by omega, by go_num, rfl⟩
                case measure => simp [intOf]; omega
            · obtain rfl : k = l.length := by omega
              rw [List.take_length, HNX.out]
              go_wp2
              go_roundw
              case rel => first | exact ⟨t + 1, by omega, by go_num, rfl, HB, HL⟩ | exact ⟨t + 1, by omega, by go_num, rfl⟩
              case measure => simp [intOf]; omega
        · obtain rfl : t = p.ts.length := by omega
          rw [List.take_length, ← HPG.out]
          go_wp2
          go_ret
          exact ⟨rfl, HB.out⟩
end Go.Proofs.YtebgcehcnenjiaaDoor
