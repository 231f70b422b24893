import Derived.Test.YtflaaogopcgdaaaLaw3
namespace Go.Proofs.Ytflaaogopcgdaaa
open Go.RowKit
set_option linter.unusedVariables false
set_option linter.unusedSimpArgs false
theorem AllOk.same {M : Md} {j : Int} (hE : mgetE M j ≠ 0) : mgetM M j = M ∧ mgetV M j = 0 := by
  unfold mgetM mgetV
  rw [if_neg hE, if_neg hE]; exact ⟨rfl, rfl⟩
set_option maxHeartbeats 4000000 in
set_option maxRecDepth 100000 in
theorem readers_walk (z : Rc) (a1 : Option Addr) (len1 cap1 : Nat) (ops : List Op3) (w : World) (hz : rcOk z) (ha : ArgOf op3F 3 op3Ok w a1 len1 cap1 ops) :
    Calls Try.prog 5 #[.agg #[.int .i64 z.k, .int .i64 z.c, .int .i64 z.r], .slice a1 len1 cap1] w fun e w' => e = .returned (.bool true) ∧ Below w.heap.size w w' := by
  obtain ⟨kk, c, r⟩ := z
  obtain ⟨hn, rfl, hs, hok⟩ := ha
  obtain ⟨i0, hi0, hz0, hz1, hz2⟩ := info_parts Try.infoI64
  have hlc := hs.form
  obtain ⟨A', c', e', hc1, hc2, _⟩ := hlc
  simp only [Value.slice.injEq, true_and] at e'
  obtain ⟨rfl, rfl⟩ := e'
  unfold maxLen at hc2
  have hbA := (Below.refl w.heap.size w).alloc (Nat.le_refl _) (.cells #[.int .i64 kk, .int .i64 c, .int .i64 r] 23)
  have HBA := Lib.hid hbA
  have LA := Lib.hid (Lies.made w 23 #[.int .i64 kk, .int .i64 c, .int .i64 r])
  have HS := Lib.hid hs
  have HOK := Lib.hid hok
  clear hok hs hbA hn hz
  go_enter Try.func5, Try.ntmps5
  go_wp2_with fail
  generalize w.alloc (.cells #[.int .i64 kk, .int .i64 c, .int .i64 r] 23) = wA at *
  refine (awake_any _).mono ?_
  rintro e w1 ⟨rfl, hb1⟩
  have la1 := LA.out.below hb1 LA.out.lt
  have c0 := (la1.cell 0).trans (show _ = some (Value.int .i64 kk) from rfl)
  have c1 := (la1.cell 1).trans (show _ = some (Value.int .i64 c) from rfl)
  have c2 := (la1.cell 2).trans (show _ = some (Value.int .i64 r) from rfl)
  have hla := la1.lt
  have HB1 := Lib.hid hb1
  clear la1 hb1
  by_cases h300 : ops.length ≤ 300
  · have hci : ¬ (300 : Int) < (ops.length : Int) := by omega
    go_wp2_with fail
    refine (refMay kk c r _).mono ?_
    rintro e w2 ⟨rfl, hb2⟩
    have hb2 := HB1.out.trans (hb2.mono HB1.out.size)
    have la2 := LA.out.below hb2 LA.out.lt
    clear c0 c1 c2 HB1 hla
    have c0 := (la2.cell 0).trans (show _ = some (Value.int .i64 kk) from rfl)
    have c1 := (la2.cell 1).trans (show _ = some (Value.int .i64 c) from rfl)
    have c2 := (la2.cell 2).trans (show _ = some (Value.int .i64 r) from rfl)
    have hla := la2.lt
    have HB2 := Lib.hid hb2
    clear la2 hb2
    obtain ⟨mb, hmb⟩ : ∃ mb, mayB kk c r = mb := ⟨_, rfl⟩
    rw [hmb]
    cases mb
    · clear hmb
      go_wp2_with fail
      refine (awake_any _).mono ?_
      rintro e w3 ⟨rfl, hb3⟩
      have hb3 := HBA.out.trans ((HB2.out.trans (hb3.mono HB2.out.size)).mono HBA.out.size)
      go_wp2
      go_ret
      exact ⟨rfl, hb3⟩
    · obtain ⟨cap, rfl⟩ : ∃ n : Nat, c = n := ⟨c.toNat, by have := of_decide_eq_true hmb; omega⟩
      obtain ⟨rd, rfl⟩ : ∃ n : Nat, r = n := ⟨r.toNat, by have := of_decide_eq_true hmb; omega⟩
      have hmb := of_decide_eq_true hmb
      have n1 : 1 ≤ cap := by omega
      have n2 : cap ≤ 64 := by omega
      have n3 : 1 ≤ rd := by omega
      have n4 : rd ≤ 8 := by omega
      have n5 : kk = 1 ∧ rd = 1 ∨ kk = 2 := by omega
      have HN := Lib.hid (fun w => mdNew kk cap rd w n1 n2 n3 n4 n5)
      clear hmb n5
      go_wp2_with fail
      refine (HN.out _).mono ?_
      rintro e w3 ⟨g, gb, rfl, hm3, hb3⟩
      have hm3 : MdAt w3 wA.heap.size g gb none (newM cap rd) := by
        obtain ⟨o1, o2, o3, o4, o5, o6, A, c, cg, o7, o8, o9, o10⟩ := hm3
        have hle := HB2.out.size
        exact ⟨o1, Nat.le_trans hle o2, Nat.le_trans hle o3, o4, o5, o6, A, c, cg, o7, by
          have : (Value.slice A (newM cap rd).L.length c) = .slice none 0 0 := by
            rcases o8.2 with ⟨h, _⟩ | ⟨g', off, cap', cur, h, _⟩
            · exact h
            · rw [h] at o10; simp [Value.ownBlock] at o10
          rw [this]; exact OwnsOff.nil _ _ _, owned_base o9 hle, o10⟩
      have hb3 := HB2.out.trans (hb3.mono HB2.out.size)
      have hq3 : QAt wA w3 g gb none (newM cap rd) (.slice none 0 0) [] := ⟨hm3, OwnsOff.nil _ _ _, fun r e => by simp [Value.ownBlock] at e, hb3⟩
      have la3 := LA.out.below hb3 LA.out.lt
      have hbs := hb3.size
      clear c0 c1 c2 HB2 HN hm3 hb3 hla
      have c2 := (la3.cell 2).trans (show _ = some (Value.int .i64 (rd : Int)) from rfl)
      have hla := la3.lt
      have HQ3 := Lib.hid hq3
      clear la3 hq3
      go_wp2_with (at_make; refine wpList_make_full _ rfl _ _ 32 rfl wA.heap.size 3 i0 (.int .i64 0) 1 Try.underlying32 hi0 hz0 hz1 .i64 .i64 _ _ rd rfl rfl rfl rfl (by rw [hz2]; omega) (by unfold maxLen; omega) hbs ?_; intro w4 ho4 hg4)
      rw [zeros_made (.int .i64 0) rfl] at ho4
      have hb34 : Below w3.heap.size w3 w4 := (Below.refl _ _).grown hg4 (Nat.le_refl _) (fun _ h => by cases h)
      have HQ4 := Lib.hid (HQ3.out.later hb34)
      have ho4 : w4.ownsRow wA.heap.size 3 1 (.slice (some ⟨w3.heap.size, 0, none⟩) rd rd) rd (cellsI (newM cap rd).G) := by
        have : cellsI (newM cap rd).G = List.replicate rd (.int .i64 0) := by unfold newM cellsI; simp
        rw [this]; exact ho4
      have HO4 := Lib.hid ho4
      clear hb34 hg4 ho4 HQ3 c2 hla
      generalize w3.heap.size = gq at *
      go_wp2_with fail
      go_loopw [7, 40] (fun u7 u wr => ∃ (k : Nat) (M : Md) (vb : Option Nat) (l : List Int), k ≤ ops.length ∧ u = .int .i64 k ∧ M.G.length = rd ∧ M.cl = false ∧ Hid (AllOk M l) ∧ l.length ≤ k ∧ QAt wA wr g gb vb M u7 l ∧ wr.ownsRow wA.heap.size 3 1 (.slice (some ⟨gq, 0, none⟩) rd rd) rd (cellsI M.G)) (fun _ u _ => ops.length - (intOf u).toNat)
      case atStart => exact ⟨0, newM cap rd, none, [], by omega, rfl, by unfold newM; simp, rfl, ⟨rfl, rfl⟩, Nat.le_refl _, HQ4.out, HO4.out⟩
      case round =>
        clear HQ4 HO4
        obtain ⟨k, M, vb, l, hk, rfl, hG, hcl, hall, hlk, hq, ho⟩ := hrel
        have hbr := HBA.out.trans (hq.2.2.2.mono HBA.out.size)
        obtain ⟨A, c, rfl, hll, hcc⟩ := hq.2.1.form
        by_cases hlt : k < ops.length
        · have hki : (k : Int) < (ops.length : Int) := by omega
          obtain ⟨x, hx⟩ : ∃ x, ops[k]? = some x := ⟨_, List.getElem?_eq_getElem hlt⟩
          have hxo := HOK.out x (List.mem_of_getElem? hx)
          obtain ⟨b, off, rfl, hbl, gx⟩ := SeqS.at_ op3F_length (by decide) (HS.out.later hbr) hx
          have x0 := gx 0 _ (by decide) rfl
          have x1 := gx 1 _ (by decide) rfl
          have x2 := gx 2 _ (by decide) rfl
          rw [Nat.add_zero] at x0
          have hbq : Below wr.heap.size wr (wr.alloc (.cells #[.int .i64 x.k, .int .i64 x.j, .int .u64 x.v] 38)) := (Below.refl _ _).alloc (Nat.le_refl _) _
          have lq := Lies.made wr 38 #[.int .i64 x.k, .int .i64 x.j, .int .u64 x.v]
          have hq1 := hq.later hbq
          have HO1 := Lib.hid (owned_below ho hbq)
          have HQ1 := Lib.hid hq1
          have LQ := Lib.hid lq
          have hpl : M.p + M.L.length ≤ 300 := by have := hall.out.1; omega
          clear hq hq1 lq hbq hx hxo gx hbl ho
          by_cases h2 : (x.k.tmod 2 == 0) = true
          · have HP := Lib.hid (mdPut x.v HQ1.out.1 (by omega))
            go_wp2_with fail
            refine HP.out.mono ?_
            rintro e w3 ⟨rfl, hst⟩
            obtain ⟨p1, p2, p3, p4⟩ := HQ1.out.apart LQ.out (by decide) (by decide)
            have lq3 := LQ.out.step hst p1 p2 p3
            have ho3 := row_step HO1.out HQ1.out hst
            obtain ⟨vb3, hq3⟩ := HQ1.out.step hst
            have y2 := (lq3.cell 2).trans (show _ = some (Value.int .u64 x.v) from rfl)
            have hlq3 := lq3.lt
            clear hst lq3 HP HQ1 x0 x1 x2 LQ HO1 p1 p2 p3 p4
            by_cases hE : mputE M = 0
            · have hM : mputM M x.v = { M with L := M.L ++ [x.v] } := by unfold mputM; rw [hE, if_pos rfl]
              have hV : mputV M = l.length := by unfold mputV; rw [hE, if_pos rfl]; exact hall.out.1
              rw [hM] at hq3
              rw [hE, hV]
              have HQ3 := Lib.hid hq3
              have HO3 := Lib.hid hq3.2.1
              have HR3 := Lib.hid ho3
              have hw3 := hq3.2.2.2.size
              have hwl : IntKind.u64.wrap ((l.length : Nat) : Int) = (l.length : Int) := by rw [IntKind.wrap_u64]; omega
              clear hq3 hE hM hV ho3
              go_wp2_with (at_builtin; refine append_off _ (.int .u64 x.v) rfl (.tmp 111) (.tmp 114) 31 rfl wA.heap.size 36 _ 8 Try.underlying31 Try.infoU64 rfl rfl (.slice A l.length c) l.length (vals l) rfl HO3.out rfl (by unfold maxLen; omega) (by omega) hw3 ?_)
              intro v' w4 ho4 hk4 hv4
              have hr4 := row_push HR3.out HQ3.out hk4
              have hq4 := HQ3.out.push ho4 hk4 hv4
              have HQ4 := Lib.hid hq4
              have HR4 := Lib.hid hr4
              clear ho4 hk4 hv4 hq4 HQ3 HO3 HR3 hr4
              go_wp2
              go_roundw
              case rel => exact ⟨k + 1, { M with L := M.L ++ [x.v] }, vb3, l ++ [x.v], by omega, by go_num, hG, hcl, hall.out.put x.v, by simp; omega, HQ4.out, HR4.out⟩
              case measure => simp [intOf]; omega
            · have hM : mputM M x.v = M := by unfold mputM; rw [if_neg hE]
              rw [hM] at hq3
              obtain ⟨E, hEE⟩ : ∃ E, mputE M = E := ⟨_, rfl⟩
              rw [hEE] at hE ⊢
              have e5 : ((E : Int) == 0) = false := by rw [beq_eq_false_iff_ne]; omega
              have HQ3 := Lib.hid hq3
              have HR3 := Lib.hid ho3
              clear hq3 hEE hM ho3
              go_wp2
              go_roundw
              case rel => exact ⟨k + 1, M, vb3, l, by omega, by go_num, hG, hcl, hall, by omega, HQ3.out, HR3.out⟩
              case measure => simp [intOf]; omega
          · have h2 : (x.k.tmod 2 == 0) = false := by simpa using h2
            have HP := Lib.hid (mdGet x.j HQ1.out.1)
            go_wp2_with fail
            refine HP.out.mono ?_
            rintro e w3 ⟨rfl, hst⟩
            obtain ⟨p1, p2, p3, p4⟩ := HQ1.out.apart LQ.out (by decide) (by decide)
            have lq3 := LQ.out.step hst p1 p2 p3
            have ho3 := row_step HO1.out HQ1.out hst
            have hok1 := HQ1.out.1.1
            obtain ⟨vb3, hq3⟩ := HQ1.out.step hst
            have y1 := (lq3.cell 1).trans (show _ = some (Value.int .i64 x.j) from rfl)
            have hlq3 := lq3.lt
            have la3 := LA.out.below hq3.2.2.2 LA.out.lt
            have c2 := (la3.cell 2).trans (show _ = some (Value.int .i64 (rd : Int)) from rfl)
            have hla := la3.lt
            clear hst lq3 HP HQ1 x0 x1 x2 LQ HO1 p1 p2 p3 p4 la3
            by_cases hE : mgetE M x.j = 0
            · obtain ⟨a1, a2, a3, a4, a5, a6, a7⟩ := hall.out.get hok1 hE
              obtain ⟨g1, g2⟩ := got_get a3
              obtain ⟨m, hm⟩ : ∃ m : Nat, x.j = m := ⟨x.j.toNat, by have := of_decide_eq_true a3; omega⟩
              rw [hm] at y1 hE hq3 a1 a2 a3 a4 a5 a6 a7 g1 g2 ⊢
              rw [Int.toNat_natCast] at g1 g2 a5
              rw [hG] at g2
              have hmr : (m : Int) < (rd : Int) := by omega
              obtain ⟨N, hN⟩ : ∃ N, gotM M m = N := ⟨_, rfl⟩
              obtain ⟨V, hV⟩ : ∃ V, mgetV M m = V := ⟨_, rfl⟩
              rw [hE, hV]
              rw [hN] at a2 a4 a5 g1
              rw [hV] at a2
              have d1 := owns_cell ho3 (cellsI_get g1)
              have f1 := owns_free ho3 (show m < rd from g2)
              obtain ⟨b1, o1, hA, _, d0⟩ := hq3.2.1.seq.get (Below.refl _ _) (k := N) (u := .int .u64 V) (by unfold vals; rw [List.getElem?_map, a2]; rfl)
              have hset := owns_set (u := .int .i64 ((N : Int) + 1)) ho3 (show m < rd from g2)
              have hlt3 := World.block_lt_of_cell? w3 _ d1
              obtain ⟨cur, hcur⟩ := row_lies ho3 rfl
              have hap := hq3.apart hcur (by decide) (by decide)
              have hk4 : Kept (oneRow gq) w3 (w3.setCell ⟨gq, m, none⟩ (.int .i64 ((N : Int) + 1))) := Kept.put w3 gq m _
              have hq4 := hq3.other hk4 hap (ho3.lt gq rfl).1
              have hr4 : (w3.setCell ⟨gq, m, none⟩ (.int .i64 ((N : Int) + 1))).ownsRow wA.heap.size 3 1 (.slice (some ⟨gq, 0, none⟩) rd rd) rd (cellsI (mgetM M m).G) := by
                rw [a5, cellsI_set]; exact hset
              have hG4 : (mgetM M m).G.length = rd := by rw [a5]; simp; exact hG
              have hcl4 : (mgetM M m).cl = false := by rw [a7]; exact hcl
              have hNl : (N : Int) < (l.length : Int) := by omega
              have hj0 : (0 : Int) ≤ (m : Int) := by omega
              subst hA
              have HQ4 := Lib.hid hq4
              have HR4 := Lib.hid hr4
              have HA4 := Lib.hid a1
              have hwN : (N : Int) ≤ 1000 := by omega
              clear hq3 ho3 hset hcur hap hk4 hq4 hr4 hE hV hN a1 a2 a3 a5 a6 a7 g1 hok1 hall hm
              go_wp2
              go_roundw
              case rel => exact ⟨k + 1, mgetM M m, vb3, l, by omega, by go_num, hG4, hcl4, HA4, by omega, HQ4.out, HR4.out⟩
              case measure => simp [intOf]; omega
            · obtain ⟨hM, hV⟩ := AllOk.same hE
              rw [hM] at hq3
              obtain ⟨E, hEE⟩ : ∃ E, mgetE M x.j = E := ⟨_, rfl⟩
              rw [hEE] at hE ⊢
              have e5 : ((E : Int) == 0) = false := by rw [beq_eq_false_iff_ne]; omega
              have HQ3 := Lib.hid hq3
              have HR3 := Lib.hid ho3
              clear hq3 hEE hM ho3 hV hok1
              go_wp2
              go_roundw
              case rel => exact ⟨k + 1, M, vb3, l, by omega, by go_num, hG, hcl, hall, by omega, HQ3.out, HR3.out⟩
              case measure => simp [intOf]; omega
        · obtain rfl : k = ops.length := by omega
          clear hq ho hcl hall
          go_wp2
          go_ret
          exact ⟨rfl, hbr⟩
  · have hci : (300 : Int) < (ops.length : Int) := by omega
    go_wp2_with fail
    refine (awake_any _).mono ?_
    rintro e w3 ⟨rfl, hb3⟩
    have hb3 := HBA.out.trans ((HB1.out.trans (hb3.mono HB1.out.size)).mono HBA.out.size)
    go_wp2
    go_ret
    exact ⟨rfl, hb3⟩
end Go.Proofs.Ytflaaogopcgdaaa
