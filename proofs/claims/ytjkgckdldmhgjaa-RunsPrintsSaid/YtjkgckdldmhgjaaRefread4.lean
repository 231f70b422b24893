import Derived.Test.YtjkgckdldmhgjaaRead
namespace Go.Proofs.Ytjkgckdldmhgjaa
open Go.RowKit
set_option linter.unusedVariables false
set_option linter.unusedSimpArgs false
theorem rd_used (s : ByteArray) (p : Nat) (hp : p ≤ s.size) : p + (rd (restOf s p)).2.2 ≤ s.size := by
  have h := rdV_used 10 0 0 (restOf s p)
  have hl : (restOf s p).length = s.size - p := by unfold restOf; simp
  unfold rd
  omega
theorem spreads_last (d : List (Nat × Nat)) (a c : Nat) (hc : 1 ≤ c) : (spreads (d ++ [(a, c)]))[(spreads (d ++ [(a, c)])).length - 1]? = some a := by
  rw [spreads_append, spreads_one]
  have hl : (spreads d ++ List.replicate c a).length - 1 = (spreads d).length + (c - 1) := by simp; omega
  rw [hl, List.getElem?_append_right (by omega), Nat.add_sub_cancel_left, List.getElem?_replicate_of_lt (by omega)]
theorem spreads_pos (d : List (Nat × Nat)) (a c : Nat) (hc : 1 ≤ c) : 0 < (spreads (d ++ [(a, c)])).length := by
  rw [spreads_append, spreads_one]; simp; omega
set_option maxHeartbeats 2000000 in
set_option maxRecDepth 100000 in
theorem refRead4 (s : ByteArray) (i : Nat) (most : Int) (w : World) (hi : i ≤ s.size) (hs : s.size ≤ 1099511627776) (h1 : most ≤ 1099511627776) (h2 : -9223372036854775808 ≤ most) :
    Calls Try.prog 21 #[.string s, .int .i64 i, .int .i64 most] w fun e w' => ∃ v,
    e = .returned (.tuple #[v, .int .i64 (redE s i most : Nat), .int .i64 (redAt s i most : Nat)]) ∧ w'.ownsRow w.heap.size 34 1 v (redOf s i most).length (cells64 (redOf s i most)) ∧ Below w.heap.size w w' := by
  by_cases hneg : most < 0
  · have hE : redE s i most = 1 := by unfold redE; rw [if_pos hneg]
    have hA : redAt s i most = i := by unfold redAt; rw [if_pos hneg]
    have hO : redOf s i most = [] := by unfold redOf; rw [hE]; rfl
    rw [hE, hA, hO]
    clear hE hA hO
    go_enter Try.func21, Try.ntmps21
    go_wp2
    go_ret3
    exact ⟨_, rfl, World.ownsRow_nil _ _ _ _, Below.refl _ _⟩
  obtain ⟨M, rfl⟩ : ∃ M : Nat, most = M := ⟨most.toNat, by omega⟩
  have e0 : decide ((M : Int) < 0) = false := by simp
  have hM : M ≤ 1099511627776 := by omega
  have hE : redE s i M = if (rd (restOf s i)).2.1 ≠ 0 then (rd (restOf s i)).2.1 else (readR (rd (restOf s i)).1 s (i + (rd (restOf s i)).2.2) [] M).2.1 := by
    unfold redE; rw [if_neg hneg, Int.toNat_natCast]
  have hA : redAt s i M = if (rd (restOf s i)).2.1 ≠ 0 then i + (rd (restOf s i)).2.2 else (readR (rd (restOf s i)).1 s (i + (rd (restOf s i)).2.2) [] M).2.2 := by
    unfold redAt; rw [if_neg hneg, Int.toNat_natCast]
  have hO : redOf s i M = if redE s i M = 0 then spreads (readR (rd (restOf s i)).1 s (i + (rd (restOf s i)).2.2) [] M).1 else [] := by unfold redOf; rw [Int.toNat_natCast]
  have hb := rd_bound (restOf s i)
  have hu := rd_used s i hi
  have HV := Lib.hid (refRead s i w (by omega) hi)
  generalize redE s i M = E at *
  generalize redAt s i M = P at *
  generalize redOf s i M = O at *
  generalize rd (restOf s i) = r at *
  obtain ⟨n, er, c⟩ := r
  simp only at hb hE hA hO hu
  have HE := Lib.hid hE
  have HA := Lib.hid hA
  have HO := Lib.hid hO
  clear hE hA hO h1 h2 hneg
  go_enter Try.func21, Try.ntmps21
  go_wp2_with fail
  refine HV.out.mono ?_
  rintro e w' ⟨rfl, rfl⟩
  clear HV
  by_cases her : er = 0
  · subst her
    have qE := HE.out
    have qA := HA.out
    rw [if_neg (show ¬ (0 : Nat) ≠ 0 by omega)] at qE qA
    clear HE HA
    have HE := Lib.hid qE
    have HA := Lib.hid qA
    clear qE qA
    go_wp2
    go_loopw [1, 11, 12] (fun q t x wr => ∃ (d : List (Nat × Nat)) (p room : Nat), q = .int .i64 p ∧ x = .int .u64 d.length ∧ d.length ≤ n ∧ p ≤ s.size ∧ room ≤ M ∧ wr.ownsRow w.heap.size 34 1 t (spreads d).length (cells64 (spreads d)) ∧ Below w.heap.size w wr ∧
        Hid (readR n s (i + c) [] M = readR (n - d.length) s p d room) ∧ Hid ((spreads d).length + room = M) ∧ Hid (∀ q ∈ d, 1 ≤ q.2))
      (fun _ _ x _ => n - (intOf x).toNat)
    case atStart => exact ⟨[], i + c, M, rfl, rfl, by simp, hu, by omega, World.ownsRow_nil _ _ _ _, Below.refl _ _, rfl, by show (spreads []).length + M = M; simp [spreads], fun q hq => by simp at hq⟩
    case round =>
      obtain ⟨d, p, room, rfl, rfl, hdn, hps, hroom, ho, hb, hU, hT, hQ⟩ := hrel
      by_cases hlt : d.length < n
      · have e1 : decide (d.length < n) = true := by simpa using hlt
        have hst : readR (n - d.length) s p d room = if (nextR s p d room).2.1 = 0 then readR (n - (d.length + 1)) s (nextR s p d room).2.2 (d ++ [(nextR s p d room).1]) (room - (nextR s p d room).1.2) else (d, (nextR s p d room).2.1, (nextR s p d room).2.2) := by
          rw [show n - d.length = (n - (d.length + 1)) + 1 by omega, readR]
        have hN : nextR s p d room = nextR s p d room := rfl
        conv at hN => rhs; unfold nextR
        have hb1 := rd_bound (restOf s p)
        have hu1 := rd_used s p hps
        have hV1 := fun w => refRead s p w (by omega) hps
        have hb2 := rd_bound (restOf s (p + (rd (restOf s p)).2.2))
        have hu2 := rd_used s _ hu1
        have hV2 := fun w => refRead s _ w (by omega) hu1
        generalize nextR s p d room = R at *
        generalize rd (restOf s (p + (rd (restOf s p)).2.2)) = b at *
        generalize rd (restOf s p) = a at *
        obtain ⟨x, f1, c1⟩ := a
        obtain ⟨y, f2, c2⟩ := b
        simp only at hst hN hb1 hu1 hV1 hb2 hu2 hV2
        have HST := Lib.hid hst
        have HN := Lib.hid hN
        have HV1 := Lib.hid hV1
        have HV2 := Lib.hid hV2
        have HOW := Lib.hid ho
        have hT1 := hT.out
        have hri : (M : Int) - ((spreads d).length : Int) = (room : Int) := by omega
        clear hst hN hV1 hV2 hT1
        go_wp2_with fail
        refine (HV1.out _).mono ?_
        rintro e w' ⟨rfl, rfl⟩
        by_cases hf1 : f1 = 0
        · subst hf1
          have hN := HN.out
          rw [if_neg (show ¬ (0 : Nat) ≠ 0 by omega)] at hN
          clear HN
          have HN := Lib.hid hN
          clear hN
          go_wp2_with fail
          refine (HV2.out _).mono ?_
          rintro e w' ⟨rfl, rfl⟩
          by_cases hf2 : f2 = 0
          · subst hf2
            have hN := HN.out
            rw [if_neg (show ¬ (0 : Nat) ≠ 0 by omega)] at hN
            clear HN
            have HN := Lib.hid hN
            clear hN HV1 HV2
            rcases runs_cases d with hd | ⟨d0, a, ca, hd⟩
            · have hla : lastIs d x = false := by rw [hd]; rfl
              have e7 : decide ((0 : Int) < (d.length : Int)) = false := by rw [hd]; simp
              have e9 : decide (0 < d.length) = false := by rw [hd]; simp
              obtain ⟨A, cp, hv, _, _, _⟩ := (SeqS.of_owns ho).form
              rw [hv] at HOW
              rw [hv]
              clear ho hv hd
              by_cases hry : room ≤ y
              · have e6 : decide (room ≤ y) = true := by simpa using hry
                have hR := HN.out
                (rw [hla, if_neg (by decide), if_pos hry] at hR)
                have hst := HST.out
                rw [hR, if_neg (by simp only; omega)] at hst
                have hU2 := hU.out.trans hst
                have hE2 : E = 4 := by rw [HE.out, hU2]
                have hA2 := HA.out
                rw [hU2] at hA2
                simp only at hA2
                have hO2 : O = [] := by rw [HO.out, hE2, if_neg (by omega)]
                have HE2 := Lib.hid hE2
                have HA2 := Lib.hid hA2
                have HO2 := Lib.hid hO2
                clear hR hst hU2 hE2 hA2 hO2 HE HA HO HN HST hU hT hQ
                clear hla hry
                go_wp2
                go_ret3
                exact ⟨_, by rw [HE2.out, HA2.out]; rfl, by rw [HO2.out]; exact World.ownsRow_nil _ _ _ _, hb⟩
              · have e6 : decide (room ≤ y) = false := by simpa using hry
                have hR := HN.out
                rw [hla, if_neg (by decide), if_neg hry] at hR
                have hst := HST.out
                rw [hR, if_pos rfl] at hst
                have hU' : Hid (readR n s (i + c) [] M = readR (n - (d.length + 1)) s (p + c1 + c2) (d ++ [(x, y + 1)]) (room - (y + 1))) := hU.out.trans hst
                have hT' : Hid ((spreads (d ++ [(x, y + 1)])).length + (room - (y + 1)) = M) := by
                  show (spreads (d ++ [(x, y + 1)])).length + (room - (y + 1)) = M
                  have := hT.out
                  rw [spreads_append, spreads_one, List.length_append, List.length_replicate]; omega
                have hQ' : Hid (∀ q ∈ d ++ [(x, y + 1)], 1 ≤ q.2) := fun q hq => by
                  rcases List.mem_append.1 hq with hq | hq
                  · exact hQ.out q hq
                  · simp at hq; subst hq; simp only; omega
                have hdl : (d ++ [(x, y + 1)]).length = d.length + 1 := by simp
                have hsl : spreads (d ++ [(x, y + 1)]) = spreads d ++ List.replicate (y + 1) x := by rw [spreads_append, spreads_one]
                have hT1 := hT.out
                have hsz : (spreads d).length + (y + 1) ≤ 1099511627776 := by omega
                have HDL := Lib.hid hdl
                have HSL := Lib.hid hsl
                clear hR hst HN HST hU hT hQ hla hdl hsl hT1
                generalize spreads d = l at *
                go_wp2
                go_loopw [11, 17] (fun t u wq => ∃ j : Nat, j ≤ y + 1 ∧ u = .int .u64 j ∧ wq.ownsRow w.heap.size 34 1 t (l.length + j) (cells64 (l ++ List.replicate j x)) ∧ Below w.heap.size w wq)
                  (fun _ u _ => y + 1 - (intOf u).toNat)
                case atStart => exact ⟨0, by omega, rfl, by simpa using HOW.out, hb⟩
                case round =>
                  clear HOW hb
                  obtain ⟨j, hj, rfl, ho, hb⟩ := hrel
                  have hbq := hb.size
                  by_cases hjc : j ≤ y
                  · have e10 : decide (j ≤ y) = true := by simpa using hjc
                    have HOJ := Lib.hid ho
                    clear ho
                    go_wp2_with (at_builtin; refine append_one _ (.int .u64 x) rfl (.tmp 86) (.tmp 88) 22 rfl w.heap.size 34 _ _ Try.underlying22 Try.infoU64 rfl rfl _ _ _ rfl HOJ.out rfl (by unfold maxLen; omega) (by omega) hbq ?_)
                    intro v' w1 ho1 hb1 hgr
                    rw [cells64_push, List.append_assoc, ← List.replicate_succ'] at ho1
                    have HO1 := Lib.hid ho1
                    have HB1 := Lib.hid (hb.trans hb1)
                    clear ho1 hb hb1 hgr
                    go_wp2
                    go_roundw
                    case rel => exact ⟨j + 1, by omega, by go_num, HO1.out, HB1.out⟩
                    case measure => simp [intOf]; omega
                  · have e10 : decide (j ≤ y) = false := by simpa using hjc
                    obtain rfl : j = y + 1 := by omega
                    rw [← HSL.out, show l.length + (y + 1) = (spreads (d ++ [(x, y + 1)])).length by rw [HSL.out]; simp] at ho
                    have HOJ := Lib.hid ho
                    clear ho
                    go_wp2
                    go_roundw
                    case rel => exact ⟨d ++ [(x, y + 1)], p + c1 + c2, room - (y + 1), rfl, by rw [HDL.out]; go_num, by rw [HDL.out]; omega, by omega, by omega, HOJ.out, hb, by show _ = _; rw [HDL.out]; exact hU'.out, hT', hQ'⟩
                    case measure => simp [intOf]; omega
            · have hla0 : lastIs d x = decide (a = x) := by rw [hd]; exact lastIs_snoc d0 a ca x
              have e7 : decide ((0 : Int) < (d.length : Int)) = true := by rw [hd]; simp only [decide_eq_true_eq, List.length_append, List.length_cons, List.length_nil]; omega
              have e9 : decide (0 < d.length) = true := by rw [hd]; simp
              have hca := hQ.out (a, ca) (by rw [hd]; simp)
              have hlast := spreads_last d0 a ca hca
              have hpos := spreads_pos d0 a ca hca
              rw [← hd] at hlast hpos
              obtain ⟨gl, cp, hv, _, _, hcp1, hcp2⟩ := owns_openS ho hpos
              rw [hv] at HOW ho
              rw [hv]
              have hcl := owns_cell ho (cells64_get hlast)
              obtain ⟨L1, hL1⟩ : ∃ L1, L1 = (spreads d).length - 1 := ⟨_, rfl⟩
              rw [← hL1] at hcl
              have hLi : ((spreads d).length : Int) - 1 = (L1 : Int) := by omega
              have hLl : L1 < (spreads d).length := by omega
              have hLl2 : (L1 : Int) < ((spreads d).length : Int) := by omega
              clear ho hv hd hlast hL1
              unfold maxLen at hcp2
              by_cases hax : a = x
              · have hla : lastIs d x = true := by rw [hla0]; simpa using hax
                have e8 : ((x : Int) == (a : Int)) = true := by simp; omega
                have hR := HN.out
                (rw [hla, if_pos rfl] at hR)
                have hst := HST.out
                rw [hR, if_neg (by simp only; omega)] at hst
                have hU2 := hU.out.trans hst
                have hE2 : E = 3 := by rw [HE.out, hU2]
                have hA2 := HA.out
                rw [hU2] at hA2
                simp only at hA2
                have hO2 : O = [] := by rw [HO.out, hE2, if_neg (by omega)]
                have HE2 := Lib.hid hE2
                have HA2 := Lib.hid hA2
                have HO2 := Lib.hid hO2
                clear hR hst hU2 hE2 hA2 hO2 HE HA HO HN HST hU hT hQ
                clear hla hla0 hax
                go_wp2
                go_ret3
                exact ⟨_, by rw [HE2.out, HA2.out]; rfl, by rw [HO2.out]; exact World.ownsRow_nil _ _ _ _, hb⟩
              · have hla : lastIs d x = false := by rw [hla0]; simpa using hax
                have e8 : ((x : Int) == (a : Int)) = false := by simp; omega
                clear hla0 hax
                by_cases hry : room ≤ y
                · have e6 : decide (room ≤ y) = true := by simpa using hry
                  have hR := HN.out
                  (rw [hla, if_neg (by decide), if_pos hry] at hR)
                  have hst := HST.out
                  rw [hR, if_neg (by simp only; omega)] at hst
                  have hU2 := hU.out.trans hst
                  have hE2 : E = 4 := by rw [HE.out, hU2]
                  have hA2 := HA.out
                  rw [hU2] at hA2
                  simp only at hA2
                  have hO2 : O = [] := by rw [HO.out, hE2, if_neg (by omega)]
                  have HE2 := Lib.hid hE2
                  have HA2 := Lib.hid hA2
                  have HO2 := Lib.hid hO2
                  clear hR hst hU2 hE2 hA2 hO2 HE HA HO HN HST hU hT hQ
                  clear hla hry
                  go_wp2
                  go_ret3
                  exact ⟨_, by rw [HE2.out, HA2.out]; rfl, by rw [HO2.out]; exact World.ownsRow_nil _ _ _ _, hb⟩
                · have e6 : decide (room ≤ y) = false := by simpa using hry
                  have hR := HN.out
                  rw [hla, if_neg (by decide), if_neg hry] at hR
                  have hst := HST.out
                  rw [hR, if_pos rfl] at hst
                  have hU' : Hid (readR n s (i + c) [] M = readR (n - (d.length + 1)) s (p + c1 + c2) (d ++ [(x, y + 1)]) (room - (y + 1))) := hU.out.trans hst
                  have hT' : Hid ((spreads (d ++ [(x, y + 1)])).length + (room - (y + 1)) = M) := by
                    show (spreads (d ++ [(x, y + 1)])).length + (room - (y + 1)) = M
                    have := hT.out
                    rw [spreads_append, spreads_one, List.length_append, List.length_replicate]; omega
                  have hQ' : Hid (∀ q ∈ d ++ [(x, y + 1)], 1 ≤ q.2) := fun q hq => by
                    rcases List.mem_append.1 hq with hq | hq
                    · exact hQ.out q hq
                    · simp at hq; subst hq; simp only; omega
                  have hdl : (d ++ [(x, y + 1)]).length = d.length + 1 := by simp
                  have hsl : spreads (d ++ [(x, y + 1)]) = spreads d ++ List.replicate (y + 1) x := by rw [spreads_append, spreads_one]
                  have hT1 := hT.out
                  have hsz : (spreads d).length + (y + 1) ≤ 1099511627776 := by omega
                  have HDL := Lib.hid hdl
                  have HSL := Lib.hid hsl
                  clear hR hst HN HST hU hT hQ hla hdl hsl hT1
                  generalize spreads d = l at *
                  go_wp2
                  go_loopw [11, 17] (fun t u wq => ∃ j : Nat, j ≤ y + 1 ∧ u = .int .u64 j ∧ wq.ownsRow w.heap.size 34 1 t (l.length + j) (cells64 (l ++ List.replicate j x)) ∧ Below w.heap.size w wq)
                    (fun _ u _ => y + 1 - (intOf u).toNat)
                  case atStart => exact ⟨0, by omega, rfl, by simpa using HOW.out, hb⟩
                  case round =>
                    clear HOW hb
                    obtain ⟨j, hj, rfl, ho, hb⟩ := hrel
                    have hbq := hb.size
                    by_cases hjc : j ≤ y
                    · have e10 : decide (j ≤ y) = true := by simpa using hjc
                      have HOJ := Lib.hid ho
                      clear ho
                      go_wp2_with (at_builtin; refine append_one _ (.int .u64 x) rfl (.tmp 86) (.tmp 88) 22 rfl w.heap.size 34 _ _ Try.underlying22 Try.infoU64 rfl rfl _ _ _ rfl HOJ.out rfl (by unfold maxLen; omega) (by omega) hbq ?_)
                      intro v' w1 ho1 hb1 hgr
                      rw [cells64_push, List.append_assoc, ← List.replicate_succ'] at ho1
                      have HO1 := Lib.hid ho1
                      have HB1 := Lib.hid (hb.trans hb1)
                      clear ho1 hb hb1 hgr
                      go_wp2
                      go_roundw
                      case rel => exact ⟨j + 1, by omega, by go_num, HO1.out, HB1.out⟩
                      case measure => simp [intOf]; omega
                    · have e10 : decide (j ≤ y) = false := by simpa using hjc
                      obtain rfl : j = y + 1 := by omega
                      rw [← HSL.out, show l.length + (y + 1) = (spreads (d ++ [(x, y + 1)])).length by rw [HSL.out]; simp] at ho
                      have HOJ := Lib.hid ho
                      clear ho
                      go_wp2
                      go_roundw
                      case rel => exact ⟨d ++ [(x, y + 1)], p + c1 + c2, room - (y + 1), rfl, by rw [HDL.out]; go_num, by rw [HDL.out]; omega, by omega, by omega, HOJ.out, hb, by show _ = _; rw [HDL.out]; exact hU'.out, hT', hQ'⟩
                      case measure => simp [intOf]; omega
          · have e5 : ((f2 : Int) != 0) = true := by simp; omega
            have hR := HN.out
            (rw [if_pos hf2] at hR)
            have hst := HST.out
            rw [hR, if_neg (by simp only; omega)] at hst
            have hU2 := hU.out.trans hst
            have hE2 : E = f2 := by rw [HE.out, hU2]
            have hA2 := HA.out
            rw [hU2] at hA2
            simp only at hA2
            have hO2 : O = [] := by rw [HO.out, hE2, if_neg (by omega)]
            have HE2 := Lib.hid hE2
            have HA2 := Lib.hid hA2
            have HO2 := Lib.hid hO2
            clear hR hst hU2 hE2 hA2 hO2 HE HA HO HN HST hU hT hQ
            clear hf2
            go_wp2
            go_ret3
            exact ⟨_, by rw [HE2.out, HA2.out]; rfl, by rw [HO2.out]; exact World.ownsRow_nil _ _ _ _, hb⟩
        · have e5 : ((f1 : Int) != 0) = true := by simp; omega
          have hR := HN.out
          (rw [if_pos hf1] at hR)
          have hst := HST.out
          rw [hR, if_neg (by simp only; omega)] at hst
          have hU2 := hU.out.trans hst
          have hE2 : E = f1 := by rw [HE.out, hU2]
          have hA2 := HA.out
          rw [hU2] at hA2
          simp only at hA2
          have hO2 : O = [] := by rw [HO.out, hE2, if_neg (by omega)]
          have HE2 := Lib.hid hE2
          have HA2 := Lib.hid hA2
          have HO2 := Lib.hid hO2
          clear hR hst hU2 hE2 hA2 hO2 HE HA HO HN HST hU hT hQ
          clear hf1
          go_wp2
          go_ret3
          exact ⟨_, by rw [HE2.out, HA2.out]; rfl, by rw [HO2.out]; exact World.ownsRow_nil _ _ _ _, hb⟩
      · obtain hdn' : d.length = n := by omega
        have e1 : decide (d.length < n) = false := by simpa using hlt
        have hU := hU.out
        rw [hdn', Nat.sub_self] at hU
        have hU2 : readR n s (i + c) [] M = (d, 0, p) := hU
        have hE2 : E = 0 := by rw [HE.out, hU2]
        have hA2 : P = p := by rw [HA.out, hU2]
        have hO2 : O = spreads d := by rw [HO.out, hE2, if_pos rfl, hU2]
        have HE2 := Lib.hid hE2
        have HA2 := Lib.hid hA2
        have HO2 := Lib.hid hO2
        have HOW := Lib.hid ho
        clear hU hU2 hE2 hA2 hO2 ho HE HA HO hT hdn'
        go_wp2
        go_ret3
        exact ⟨_, by rw [HE2.out, HA2.out]; rfl, by rw [HO2.out]; exact HOW.out, hb⟩
  · have e5 : ((er : Int) != 0) = true := by simp; omega
    have qE := HE.out
    have qA := HA.out
    rw [if_pos her] at qE qA
    have qO : O = [] := by rw [HO.out, qE, if_neg her]
    have QE := Lib.hid qE
    have QA := Lib.hid qA
    have QO := Lib.hid qO
    clear qE qA qO HE HA HO her
    go_wp2
    go_ret3
    exact ⟨_, by rw [QE.out, QA.out]; rfl, by rw [QO.out]; exact World.ownsRow_nil _ _ _ _, Below.refl _ _⟩
end Go.Proofs.Ytjkgckdldmhgjaa
