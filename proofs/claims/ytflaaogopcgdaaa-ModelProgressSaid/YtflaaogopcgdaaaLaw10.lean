import Derived.Test.YtflaaogopcgdaaaLaw9
import Derived.Deep.RegionHeld3
namespace Go.Proofs.Ytflaaogopcgdaaa
open Go.RowKit
set_option linter.unusedVariables false
set_option linter.unusedSimpArgs false
abbrev z24 : Array Value := #[.int .i64 0, .int .i64 0, .int .u64 0, .int .u64 0, .int .i64 0, .int .i64 0, .int .u64 0, .int .u64 0, .int .i64 0, .int .i64 0, .int .u64 0, .int .u64 0, .int .i64 0, .int .i64 0, .int .u64 0, .int .u64 0, .int .i64 0, .int .i64 0, .int .u64 0, .int .u64 0, .int .i64 0, .int .i64 0, .int .u64 0, .int .u64 0]
theorem Whole.new (cap rd : Nat) : Whole (newR cap rd) (List.replicate 6 pd0) := by
  refine ⟨fun t ht => by simp only [newR] at ht; omega, fun j t hr hh => ?_⟩
  exfalso
  unfold headN newR at hh
  simp only at hh
  have : [0, 0, 0, 0, 0, 0, 0, 0].getD j.toNat 0 = 0 := by
    rw [List.getD_eq_getElem?_getD]
    match j.toNat with
    | 0 => rfl
    | 1 => rfl
    | 2 => rfl
    | 3 => rfl
    | 4 => rfl
    | 5 => rfl
    | 6 => rfl
    | 7 => rfl
    | n + 8 => rfl
  omega
theorem z24_rows : (rowsOf pdF (List.replicate 6 pd0)).toArray = z24 := rfl
theorem md_base {w : World} {B B' g gb cap rd : Nat} (h : MdAt w B g gb none (newM cap rd)) (hle : B' ≤ B) : MdAt w B' g gb none (newM cap rd) := by
  obtain ⟨o1, o2, o3, o4, o5, o6, A, c, cg, o7, o8, o9, o10⟩ := h
  exact ⟨o1, Nat.le_trans hle o2, Nat.le_trans hle o3, o4, o5, o6, A, c, cg, o7, by
    have : (Value.slice A (newM cap rd).L.length c) = .slice none 0 0 := by
      rcases o8.2 with ⟨h, _⟩ | ⟨g', off, cap', cur, h, _⟩
      · exact h
      · rw [h] at o10; simp [Value.ownBlock] at o10
    rw [this]; exact OwnsOff.nil _ _ _, owned_base o9 hle, o10⟩
theorem LnS.apart {wA w : World} {q g gb b : Nat} {vb : Option Nat} {R : Rg} {M : Md} {T : TypeId} {cs : Array Value} (h : LnS wA w q g gb vb R M) (hl : Lies w b T cs) (h1 : T ≠ 36) (h2 : T ≠ 68) (h3 : T ≠ 83) : ¬ lnK q g gb vb b := by
  obtain ⟨cs, hr⟩ := RgAt.lies h.1
  obtain ⟨p1, p2, p3⟩ := h.2.1.apart hl h1 h2
  rintro (e | e | e | e)
  · subst e; exact h3 (hl.same hr).1
  · exact p1 e
  · exact p2 e
  · exact p3 e
abbrev stm (w : World) (n o : Nat) (a0 a1 a2 a3 : Value) : World := (((w.setCell ⟨n, o, none⟩ a0).setCell ⟨n, o + 1, none⟩ a1).setCell ⟨n, o + 2, none⟩ a2).setCell ⟨n, o + 3, none⟩ a3
theorem stm_is (w : World) (n o : Nat) (p : Pd) : w.setCells n o (pdF p) = stm w n o (.int .i64 (p.k : Int)) (.int .i64 p.j) (.int .u64 (p.t : Int)) (.int .u64 (p.v : Int)) := rfl
theorem LnS.base {w wA w' : World} {q g gb : Nat} {vb : Option Nat} {R : Rg} {M : Md} (h : LnS wA w' q g gb vb R M) (hb : Below w.heap.size w wA) : LnS w w' q g gb vb R M := by
  obtain ⟨h1, ⟨o1, o2, o3, o4, o5, o6, A, c, cg, o7, o8, o9, o10⟩, h3, h4⟩ := h
  have hle := hb.size
  exact ⟨h1, ⟨o1, Nat.le_trans hle o2, Nat.le_trans hle o3, o4, o5, o6, A, c, cg, o7, ⟨o8.1, o8.2.imp id (fun ⟨g, off, cap, cur, e, i1, i2⟩ => ⟨g, off, cap, cur, e, Nat.le_trans hle i1, i2⟩)⟩, owned_base o9 hle, o10⟩, Nat.le_trans hle h3, hb.trans (h4.mono hle)⟩
/-- What clients' steps leave. -/
def PldPost (w : World) (e : Ending) (w' : World) : Prop :=
  ∃ q g gb vb R M all P, e = .returned (.tuple #[.pointer (some ⟨q, 0, none⟩), .agg (rowsOf pdF P).toArray, .bool true]) ∧ LnS w w' q g gb vb R M ∧ Lin R M all ∧ SixOk R all P ∧ P.length = 6 ∧ R.tail ≤ 300 ∧ Whole R P
set_option maxHeartbeats 8000000 in
set_option maxRecDepth 100000 in
theorem played_walk (ops : List Op4) (a1 : Option Addr) (cap1 : Nat) (k : Int) (cap rd : Nat) (w : World) (n1 : 1 ≤ cap) (n2 : cap ≤ 64) (n3 : 1 ≤ rd) (n4 : rd ≤ 8) (n5 : k = 1 ∧ rd = 1 ∨ k = 2)
    (hs : SeqS w 4 (.slice a1 ops.length cap1) ops.length (rowsOf op4F ops)) (hok : ∀ x ∈ ops, op4Ok x) (hlen : ops.length ≤ 300) :
    Calls Try.prog 21 #[.agg #[.int .i64 k, .int .i64 (cap : Int), .int .i64 (rd : Int)], .slice a1 ops.length cap1] w (PldPost w) := by
  have HS := Lib.hid hs
  have HOK := Lib.hid hok
  have HR := Lib.hid (fun w => rgNew k cap rd w n1 n2 n3 n4 n5)
  have HM := Lib.hid (fun w => mdNew k cap rd w n1 n2 n3 n4 n5)
  have HLI := Lib.hid (lin_new n1 n2 n3 n4)
  clear hs hok n5
  have hb0 := (Below.refl w.heap.size w).alloc (Nat.le_refl _) (.cells #[.int .i64 k, .int .i64 (cap : Int), .int .i64 (rd : Int)] 23)
  have hbA := hb0.alloc (by simp) (.cells z24 56)
  have la := (Lies.made w 23 #[.int .i64 k, .int .i64 (cap : Int), .int .i64 (rd : Int)]).alloc (.cells z24 56)
  have l5 := Lies.made (w.alloc (.cells #[.int .i64 k, .int .i64 (cap : Int), .int .i64 (rd : Int)] 23)) 56 z24
  rw [World.size_alloc] at l5
  have HBA := Lib.hid hbA
  have LA := Lib.hid la
  have L5 := Lib.hid l5
  clear hb0 hbA la l5
  go_enter Try.func21, Try.ntmps21
  go_upto_region 1 with (fail)
  generalize (w.alloc (.cells #[.int .i64 k, .int .i64 (cap : Int), .int .i64 (rd : Int)] 23)).alloc (.cells z24 56) = wA at *
  have c0 := (LA.out.cell 0).trans (show _ = some (Value.int .i64 k) from rfl)
  have c1 := (LA.out.cell 1).trans (show _ = some (Value.int .i64 (cap : Int)) from rfl)
  have c2 := (LA.out.cell 2).trans (show _ = some (Value.int .i64 (rd : Int)) from rfl)
  have hla := LA.out.lt
  go_wp2_with fail
  refine (HR.out _).mono ?_
  rintro e w1 ⟨q, rfl, hq1, hr1, hb1⟩
  have la1 := LA.out.below hb1 LA.out.lt
  clear c0 c1 c2 hla
  have c0 := (la1.cell 0).trans (show _ = some (Value.int .i64 k) from rfl)
  have c1 := (la1.cell 1).trans (show _ = some (Value.int .i64 (cap : Int)) from rfl)
  have c2 := (la1.cell 2).trans (show _ = some (Value.int .i64 (rd : Int)) from rfl)
  have hla := la1.lt
  have HR1 := Lib.hid hr1
  have HB1 := Lib.hid hb1
  clear la1 hr1 hb1 HR
  go_wp2_with fail
  refine (HM.out _).mono ?_
  rintro e w2 ⟨g, gb, rfl, hm2, hb2⟩
  have hs2 : LnS wA w2 q g gb none (newR cap rd) (newM cap rd) := ⟨HR1.out.later hb2, md_base hm2 HB1.out.size, hq1, HB1.out.trans (hb2.mono HB1.out.size)⟩
  have hbn : Below w2.heap.size w2 (w2.alloc (.cells z24 56)) := (Below.refl _ _).alloc (Nat.le_refl _) _
  have HS3 := Lib.hid (hs2.later hbn)
  have HN3 : Hid (NowAt (w2.alloc (.cells z24 56)) w2.heap.size (List.replicate 6 pd0)) := ⟨rfl, by rw [z24_rows]; exact Lies.made _ _ _⟩
  have hnA : wA.heap.size ≤ w2.heap.size := hs2.2.2.2.size
  clear hm2 hb2 hs2 hbn HR1 HB1 HM c0 c1 c2 hla hq1
  go_wp2_with fail
  generalize w2.alloc (.cells z24 56) = w3 at *
  generalize w2.heap.size = n at *
  go_loopw [35] (fun u wr => ∃ (i : Nat) (R : Rg) (M : Md) (vb : Option Nat) (all : List Int) (P : List Pd), i ≤ ops.length ∧ u = .int .i64 i ∧ R.tail ≤ i ∧ Hid (Lin R M all) ∧ Hid (NatsOk all) ∧ Hid (SixOk R all P) ∧ Hid (Whole R P) ∧ Hid (LnS wA wr q g gb vb R M) ∧ Hid (NowAt wr n P)) (fun u _ => ops.length - (intOf u).toNat)
  case atStart =>
    have hn0 : NatsOk [] := fun y hy => by cases hy
    exact ⟨0, newR cap rd, newM cap rd, none, [], List.replicate 6 pd0, by omega, rfl, Nat.le_refl _, HLI, hn0, SixOk.zero, Whole.new cap rd, HS3, HN3⟩
  case round =>
    clear HS3 HN3 HLI
    obtain ⟨i, R, M, vb, all, P, hi, rfl, htl, hlin, hnat, hsix, hwh, hst, hnow⟩ := hrel
    have hbw := hst.out.2.2.2
    have hbr := HBA.out.trans (hbw.mono HBA.out.size)
    by_cases hlt : i < ops.length
    · have hki : (i : Int) < (ops.length : Int) := by omega
      obtain ⟨x, hx⟩ : ∃ x, ops[i]? = some x := ⟨_, List.getElem?_eq_getElem hlt⟩
      have hxo := HOK.out x (List.mem_of_getElem? hx)
      obtain ⟨b, off, rfl, hbl, gx⟩ := SeqS.at_ op4F_length (by decide) (HS.out.later hbr) hx
      have x0 := gx 0 _ (by decide) rfl
      have x1 := gx 1 _ (by decide) rfl
      have x2 := gx 2 _ (by decide) rfl
      have x3 := gx 3 _ (by decide) rfl
      rw [Nat.add_zero] at x0
      have hbq : Below wr.heap.size wr (wr.alloc (.cells (op4C x) 71)) := (Below.refl _ _).alloc (Nat.le_refl _) _
      have lq := Lies.made wr 71 (op4C x)
      have HS1 := Lib.hid (hst.out.later hbq)
      have HN1 := Lib.hid (hnow.out.later hbq)
      have LQ := Lib.hid lq
      have HX := Lib.hid hxo
      obtain ⟨m, hmE, hm6⟩ := six_is x.c
      obtain ⟨p, hp⟩ : ∃ p, P[m]? = some p := ⟨_, List.getElem?_eq_getElem (by rw [hnow.out.1]; exact hm6)⟩
      have HPM := Lib.hid hp
      have hnlt := hnow.out.2.lt
      clear hbw hbr hbq lq hst hnow hx hxo gx hbl hp
      go_upto_region 11 with (fail)
      generalize wr.alloc (.cells (op4C x) 71) = wq at *
      have z0 := HN1.out.one HPM.out 0 _ rfl
      have z1 := HN1.out.one HPM.out 1 _ rfl
      have z2 := HN1.out.one HPM.out 2 _ rfl
      have z3 := HN1.out.one HPM.out 3 _ rfl
      rw [Nat.add_zero] at z0
      have hzl := HN1.out.2.lt
      have y0 := (LQ.out.cell 0).trans (show _ = some (Value.int .i64 x.c) from rfl)
      have y1 := (LQ.out.cell 1).trans (show _ = some (Value.int .i64 x.k) from rfl)
      have y2 := (LQ.out.cell 2).trans (show _ = some (Value.int .i64 x.j) from rfl)
      have y3 := (LQ.out.cell 3).trans (show _ = some (Value.int .u64 (x.v : Int)) from rfl)
      have hlq := LQ.out.lt
      clear x0 x1 x2 x3 hmE
      by_cases hk0 : p.k = 0
      · have e0 : ((p.k : Int) == 0) = true := by rw [hk0]; rfl
        have HC := Lib.hid (lnBegin x HS1.out hlin.out (by omega) hnat.out HX.out)
        go_wp2_with fail
        refine HC.out.mono ?_
        rintro e w4 ⟨vb', R', M', all', p', rfl, s4, l4, t4, m1, m2, m3, nt4, v4, k4, _, wh4⟩
        have hn4 := HN1.out.kept k4 (HS1.out.apart HN1.out.2 (by decide) (by decide) (by decide))
        have hkc := kept_cells (g := n) (pdF p') (m * 4) w4
        have hs5 := s4.far hn4.2 (by decide) (by decide) (by decide) hkc hnA
        have hn5 := hn4.set hm6 p'
        rw [stm_is] at hs5 hn5
        have HS5 := Lib.hid hs5
        have HN5 := Lib.hid hn5
        clear z0 z1 z2 z3 hzl hs5 hn5
        have z0 := hn4.one HPM.out 0 _ rfl
        have z1 := hn4.one HPM.out 1 _ rfl
        have z2 := hn4.one HPM.out 2 _ rfl
        have z3 := hn4.one HPM.out 3 _ rfl
        rw [Nat.add_zero] at z0
        have f0 := hn4.2.free (m * 4)
        have f1 := hn4.2.free (m * 4 + 1)
        have f2 := hn4.2.free (m * 4 + 2)
        have f3 := hn4.2.free (m * 4 + 3)
        have hzl := hn4.2.lt
        have HSX := Lib.hid (hsix.out.begin_ (m := m) m1 m2 m3 v4)
        have HWX := Lib.hid (wh4 P m p HPM.out hk0 hwh.out)
        clear wh4 hwh
        have L4 := Lib.hid l4
        have NT4 := Lib.hid nt4
        have ht4 : R'.tail ≤ i + 1 := by omega
        clear hlin hnat hsix HS1 HN1 HC s4 l4 t4 m1 m2 m3 nt4 v4 k4 hn4 hkc y0 y1 y2 y3 hlq HX HPM hk0
        go_wp2
        go_roundw
        case rel => exact ⟨i + 1, R', M', vb', all', P.set m p', by omega, by go_num, ht4, L4, NT4, HSX, HWX, HS5, HN5⟩
        case measure => simp [intOf]; omega
      · have e0 : ((p.k : Int) == 0) = false := by rw [beq_eq_false_iff_ne]; omega
        have hpok := hsix.out.1 p (List.mem_of_getElem? HPM.out)
        have HC := Lib.hid (lnFurther p HS1.out hlin.out (by omega) hpok.1 hk0 hpok.2)
        go_wp2_with fail
        refine HC.out.mono ?_
        rintro e w4 ⟨R', p', rfl, s4, l4, t4, h0, m1, m2, k4, wh4, _⟩
        have hn4 := HN1.out.kept k4 (fun (e : n = q) => HS1.out.apart HN1.out.2 (by decide) (by decide) (by decide) (.inl e))
        have hkc := kept_cells (g := n) (pdF p') (m * 4) w4
        have hs5 := s4.far hn4.2 (by decide) (by decide) (by decide) hkc hnA
        have hn5 := hn4.set hm6 p'
        rw [stm_is] at hs5 hn5
        have HS5 := Lib.hid hs5
        have HN5 := Lib.hid hn5
        clear z0 z1 z2 z3 hzl hs5 hn5
        have z0 := hn4.one HPM.out 0 _ rfl
        have z1 := hn4.one HPM.out 1 _ rfl
        have z2 := hn4.one HPM.out 2 _ rfl
        have z3 := hn4.one HPM.out 3 _ rfl
        rw [Nat.add_zero] at z0
        have f0 := hn4.2.free (m * 4)
        have f1 := hn4.2.free (m * 4 + 1)
        have f2 := hn4.2.free (m * 4 + 2)
        have f3 := hn4.2.free (m * 4 + 3)
        have hzl := hn4.2.lt
        have HSX := Lib.hid (hsix.out.further_ HPM.out h0 m1 m2)
        have HWX := Lib.hid (wh4 P m HPM.out hwh.out)
        clear wh4 hwh
        have L4 := Lib.hid l4
        have ht4 : R'.tail ≤ i + 1 := by omega
        clear hlin hsix HS1 HN1 HC s4 l4 t4 h0 m1 m2 k4 hn4 hkc y0 y1 y2 y3 hlq HX HPM hk0 hpok
        go_wp2
        go_roundw
        case rel => exact ⟨i + 1, R', M, vb, all, P.set m p', by omega, by go_num, ht4, L4, hnat, HSX, HWX, HS5, HN5⟩
        case measure => simp [intOf]; omega
    · obtain rfl : i = ops.length := by omega
      have hA2 : w.heap.size + 2 ≤ wA.heap.size := L5.out.lt
      have hl5 := L5.out.below hst.out.2.2.2 L5.out.lt
      have hPN : LnS w wr.drew q g gb vb R M ∧ NowAt wr.drew n P ∧ (∃ z : Array Value, z.size = 24 ∧ Lies wr.drew (w.heap.size + 1) 56 z) :=
        ⟨(hst.out.later (below_drewN (Below.refl _ _) 1)).base HBA.out, hnow.out.later (below_drewN (Below.refl _ _) 1), z24, rfl, Lies.drew hl5⟩
      have HI := Lib.hid (show (Try.prog.info? 56).map (·.size) = some (rowsOf pdF P).length by rw [hnow.out.rows]; exact Try.info6)
      have HI2 := Lib.hid (show (Try.prog.info? 56).map (·.size) = some (rowsOf pdF P).toArray.size by simp only [List.size_toArray]; exact HI.out)
      have HONE := Lib.hid (all_oneCell_toArray (pdF_one P))
      have HRW := Lib.hid hnow.out.rows
      clear hl5 hst hnow hnat hbw hbr
      go_wp2_with fail
      refine wp_region_held_drew (S := fun y => LnS w y q g gb vb R M ∧ NowAt y n P ∧ (∃ z : Array Value, z.size = 24 ∧ Lies y (w.heap.size + 1) 56 z)) (by kernel_rfl) hPN (fun hHeld => ?_)
      try simp only [Act.put, List.setIfInBounds_toArray, List.set_cons_zero, List.set_cons_succ]
      clear hPN
      generalize wr.drew = wd at *
      refine wpAnyH_take (i := 0) (v := (.pointer (some ⟨q, 0, none⟩))) rfl (by kernel_rfl) (by kernel_rfl) (by kernel_rfl) (fun _ _ _ h => h) (Or.inl ⟨by rfl, fun w h => by (simp only [List.getElem_toArray, List.getElem_cons_succ, List.getElem_cons_zero]; clear h; go_simp)⟩) (by assumption) ?_
      simp only [Act.put, List.getElem_toArray, List.getElem_cons_succ, List.getElem_cons_zero, List.setIfInBounds_toArray, List.set_cons_zero, List.set_cons_succ]
      refine wpAnyH_take (i := 1) rfl (by kernel_rfl) (by kernel_rfl) (by kernel_rfl) (fun _ _ _ h => h) (yieldsIf_load_mid (by rfl) _ _ rfl n 0 rfl (rowsOf pdF P) _ (fun w h => h.2.1.range) under6 rfl HI.out) (by assumption) ?_
      try simp only [Act.put, List.setIfInBounds_toArray, List.set_cons_zero, List.set_cons_succ]
      refine wpAnyH_take (i := 2) (v := (.pointer (some ⟨q, 0, none⟩))) rfl (by kernel_rfl) (by kernel_rfl) (by kernel_rfl) (fun _ _ _ h => h) (Or.inl ⟨by rfl, fun w h => by (simp only [List.getElem_toArray, List.getElem_cons_succ, List.getElem_cons_zero]; clear h; go_simp)⟩) (by assumption) ?_
      simp only [Act.put, List.getElem_toArray, List.getElem_cons_succ, List.getElem_cons_zero, List.setIfInBounds_toArray, List.set_cons_zero, List.set_cons_succ]
      refine wpAnyH_ready (rs := [3]) (by kernel_rfl) (by simp) ?_
      refine AllReadyH.cons rfl (fun K hK => ?_) AllReadyH.nil
      rw [if_pos (by rfl)]
      obtain ⟨z, hz, hlz⟩ := hHeld.2.2
      have hth := lies_there hlz (o := 0) (n := (rowsOf pdF P).toArray.size) (by simp only [List.size_toArray]; rw [HRW.out, hz]; omega)
      have hkc := kept_cells (g := w.heap.size + 1) (rowsOf pdF P) 0 wd
      have hlE : Lies (wd.setCells (w.heap.size + 1) 0 (rowsOf pdF P)) (w.heap.size + 1) 56 (rowsOf pdF P).toArray := by
        have h1 : Lies wd (w.heap.size + 1) 56 ([] ++ (z.toList ++ [])).toArray := by simpa using hlz
        have := lies_cells (rowsOf pdF P) [] z.toList [] wd (by rw [HRW.out, Array.length_toList, hz]) h1
        simpa using this
      have hsE := hHeld.1.far hlz (by decide) (by decide) (by decide) hkc (by omega)
      have hnE := hHeld.2.1.kept hkc (fun (e : n = w.heap.size + 1) => by omega)
      have hN : LnS w (wd.setCells (w.heap.size + 1) 0 (rowsOf pdF P)) q g gb vb R M ∧ NowAt (wd.setCells (w.heap.size + 1) 0 (rowsOf pdF P)) n P ∧ (∃ z : Array Value, z.size = 24 ∧ Lies (wd.setCells (w.heap.size + 1) 0 (rowsOf pdF P)) (w.heap.size + 1) 56 z) :=
        ⟨hsE, hnE, _, by simp only [List.size_toArray]; exact HRW.out, hlE⟩
      refine wp_store_mid 56 _ _ rfl (w.heap.size + 1) 0 (rowsOf pdF P).toArray rfl rfl hth HI2.out HONE.out ?_
      refine hK.out _ (wd.setCells (w.heap.size + 1) 0 (rowsOf pdF P)) hN (fun _ => ?_)
      clear hK K hHeld hth hkc hsE hnE hz
      try simp only [Act.put, List.setIfInBounds_toArray, List.set_cons_zero, List.set_cons_succ]
      have hHeld := hN
      clear hN
      generalize wd.setCells (w.heap.size + 1) 0 (rowsOf pdF P) = wE at *
      refine wpAnyH_take (i := 4) (v := (.bool true)) rfl (by kernel_rfl) (by kernel_rfl) (by kernel_rfl) (fun _ _ _ h => h) (Or.inl ⟨by rfl, fun w h => by (simp only [List.getElem_toArray, List.getElem_cons_succ, List.getElem_cons_zero]; clear h; go_simp)⟩) (by assumption) ?_
      simp only [Act.put, List.getElem_toArray, List.getElem_cons_succ, List.getElem_cons_zero, List.setIfInBounds_toArray, List.set_cons_zero, List.set_cons_succ]
      refine wpAnyH_done (by kernel_rfl) ?_ _
      have hrE : wE.rangeAt (w.heap.size + 1) 0 (rowsOf pdF P) := fun j v hv => by
        rw [Nat.zero_add, hlE.cell, List.getElem?_toArray]; exact hv
      have hld := run_loadVar_mid wE (w.heap.size + 1) 0 56 (rowsOf pdF P) _ hrE under6 rfl HI.out
      have HLD := Lib.hid hld
      have HSE := Lib.hid hHeld.1
      have HRL := Lib.hid (show P.length = 6 from hHeld.2.1.1)
      clear hrE hld hlE hHeld
      go_wp2
      refine bodyPost_ret (v := .tuple #[.pointer (some ⟨q, 0, none⟩), .agg (rowsOf pdF P).toArray, .bool true]) (by simp [results, Try.results21, asAddr, HLD.out]) rfl ?_
      exact ⟨q, g, gb, vb, R, M, all, P, rfl, HSE.out, hlin.out, hsix.out, HRL.out, by omega, hwh.out⟩
end Go.Proofs.Ytflaaogopcgdaaa
