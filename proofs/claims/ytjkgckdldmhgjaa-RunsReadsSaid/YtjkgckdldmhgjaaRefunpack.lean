import Derived.Test.YtjkgckdldmhgjaaUnpack
namespace Go.Proofs.Ytjkgckdldmhgjaa
open Go.RowKit
set_option linter.unusedVariables false
set_option linter.unusedSimpArgs false
/-- Of one element of pairs: its place and cells, in this world. -/
theorem seq2_at {w : World} {A : Option Addr} {n c : Nat} {rs : List (Nat × Nat)} (h : SeqS w 2 (.slice A n c) n (cells2 rs)) {k : Nat} {p : Nat × Nat} (hp : rs[k]? = some p) (hk : k < n) :
    ∃ b off, A = some ⟨b, off, none⟩ ∧ w.cell? ⟨b, off + k * 2, none⟩ = some (.int .u64 (p.1 : Int)) ∧ w.cell? ⟨b, off + k * 2 + 1, none⟩ = some (.int .u64 (p.2 : Int)) := by
  obtain ⟨b, off, c', hA, _, _, hc⟩ := h.elem (i := k) hk (by omega)
  simp only [Value.slice.injEq] at hA
  obtain ⟨rfl, _, _⟩ := hA
  obtain ⟨g1, g2⟩ := cells2_get hp
  exact ⟨b, off, rfl, hc 0 _ (by omega) g1, hc 1 _ (by omega) g2⟩
set_option maxHeartbeats 2000000 in
set_option maxRecDepth 100000 in
theorem refUnpack (v : Value) (rs : List (Nat × Nat)) (most : Int) (w : World) (h : SeqS w 2 v rs.length (cells2 rs)) (hm : ∀ p ∈ rs, p.1 < M64 ∧ p.2 < M64) (h1 : most ≤ 1099511627776) (h2 : -9223372036854775808 ≤ most) :
    Calls Try.prog 15 #[v, .int .i64 most] w fun e w' => ∃ v', e = .returned (.tuple #[v', .int .i64 (unpErr rs most : Nat)]) ∧ w'.ownsRow w.heap.size 34 1 v' (unpOut rs most).length (cells64 (unpOut rs most)) ∧ Below w.heap.size w w' := by
  by_cases hneg : most < 0
  · have e1 : unpErr rs most = 1 := by unfold unpErr; rw [if_pos hneg]
    have e2 : unpOut rs most = [] := by unfold unpOut; rw [e1]; rfl
    rw [e1, e2]
    clear e1 e2 h hm
    go_enter Try.func15, Try.ntmps15
    go_wp2
    go_ret2
    exact ⟨_, rfl, World.ownsRow_nil _ _ _ _, Below.refl _ _⟩
  obtain ⟨M, rfl⟩ : ∃ M : Nat, most = M := ⟨most.toNat, by omega⟩
  have e0 : decide ((M : Int) < 0) = false := by simp
  have hM : M ≤ 1099511627776 := by omega
  have e1 : unpErr rs M = unpackE [] rs M := by unfold unpErr; rw [if_neg hneg, Int.toNat_natCast]
  have e2 : unpOut rs M = if unpackE [] rs M = 0 then spreads rs else [] := by unfold unpOut; rw [e1]
  have HE1 := Lib.hid e1
  have HE2 := Lib.hid e2
  obtain ⟨A, cp, rfl, hc1, hc2, _⟩ := h.form
  unfold maxLen at hc2
  have H := Lib.hid h
  clear h e1 e2 h1 h2 hneg
  go_enter Try.func15, Try.ntmps15
  go_wp2
  go_loopw [6, 7] (fun t i wr => ∃ k room : Nat, k ≤ rs.length ∧ i = .int .i64 k ∧ wr.ownsRow w.heap.size 34 1 t (spreads (rs.take k)).length (cells64 (spreads (rs.take k))) ∧ Hid (unpackE [] rs M = unpackE (rs.take k) (rs.drop k) room) ∧ Hid ((spreads (rs.take k)).length + room = M) ∧ Below w.heap.size w wr)
    (fun _ i _ => rs.length - (intOf i).toNat)
  case atStart => exact ⟨0, M, by omega, rfl, World.ownsRow_nil _ _ _ _, rfl, (by show (spreads (rs.take 0)).length + M = M; simp [spreads]), Below.refl _ _⟩
  case round =>
    obtain ⟨k, room, hk, rfl, ho, hU, hT, hb⟩ := hrel
    by_cases hlt : k < rs.length
    · have hki : (k : Int) < (rs.length : Int) := by omega
      have hg : rs[k]? = some rs[k] := List.getElem?_eq_getElem hlt
      obtain ⟨b, off, rfl, c1w, c2w⟩ := seq2_at H.out hg hlt
      have c1 := cell_later c1w hb
      have c2 := cell_later c2w hb
      have hst := unpack_step (room := room) hg
      have hpm := hm _ (List.getElem_mem hlt)
      have hsp := spreads_take hg
      have hbs := hb.size
      have hT1 := hT.out
      generalize hp : rs[k] = p at *
      obtain ⟨x, c⟩ := p
      simp only at c1 c2 c1w c2w hst hpm hsp
      unfold M64 at hpm
      have hri : (M : Int) - ((spreads (rs.take k)).length : Int) = (room : Int) := by omega
      have HST := Lib.hid hst
      have HSP := Lib.hid hsp
      have HO := Lib.hid ho
      obtain ⟨A2, cp2, hv2, ho1, ho2, _⟩ := (SeqS.of_owns ho).form
      rw [hv2] at HO
      rw [hv2]
      clear hst hsp ho hv2 hT1
      generalize hd : spreads (rs.take k) = d at *
      clear hd
      by_cases hc0 : c = 0
      · have e1 : fitE (rs.take k) x c room = 3 := by unfold fitE; rw [if_pos hc0]
        have hst := HST.out
        rw [e1, if_neg (by omega)] at hst
        have hUE : unpackE [] rs M = 3 := hU.out.trans hst
        have HUE : Hid (unpErr rs M = 3) := HE1.out.trans hUE
        have HUO : Hid (unpOut rs M = []) := by show unpOut rs M = []; rw [HE2.out, hUE, if_neg (by omega)]
        have e5 : ((c : Int) == 0) = true := by simp; omega
        clear e1 hst hUE hU hT HST HSP hri hp hg
        go_wp2
        go_quiet (fail)
        go_wp2
        go_ret2
        exact ⟨_, by rw [HUE.out]; rfl, by rw [HUO.out]; exact World.ownsRow_nil _ _ _ _, below_drewN hb _⟩
      · have e5 : ((c : Int) == 0) = false := by simp; omega
        rcases Nat.eq_zero_or_pos k with hk0 | hk0
        · have hla : lastIs (rs.take k) x = false := by rw [hk0]; simp [lastIs]
          have e7 : decide ((0 : Int) < (k : Int)) = false := by simp; omega
          have e9 : decide (0 < k) = false := by simp; omega
          clear hk0
          by_cases hrc : room < c
          · have e1 : fitE (rs.take (k)) x c room = 4 := by unfold fitE; rw [if_neg hc0, hla, if_neg (by decide), if_pos hrc]
            have hst := HST.out
            rw [e1, if_neg (by omega)] at hst
            have hUE : unpackE [] rs M = 4 := hU.out.trans hst
            have HUE : Hid (unpErr rs M = 4) := HE1.out.trans hUE
            have HUO : Hid (unpOut rs M = []) := by show unpOut rs M = []; rw [HE2.out, hUE, if_neg (by omega)]
            have e6 : decide (room < c) = true := by simpa using hrc
            clear e1 hst hUE hU hT HST HSP hp hg hla
            go_wp2
            go_quiet (fail)
            go_wp2
            go_ret2
            exact ⟨_, by rw [HUE.out]; rfl, by rw [HUO.out]; exact World.ownsRow_nil _ _ _ _, below_drewN hb _⟩
          · have e1 : fitE (rs.take (k)) x c room = 0 := by unfold fitE; rw [if_neg hc0, hla, if_neg (by decide), if_neg hrc]
            have hst := HST.out
            rw [e1, if_pos rfl] at hst
            have hU' : Hid (unpackE [] rs M = unpackE (rs.take (k + 1)) (rs.drop (k + 1)) (room - c)) := hU.out.trans hst
            have hT' : Hid ((spreads (rs.take (k + 1))).length + (room - c) = M) := by
              show (spreads (rs.take (k + 1))).length + (room - c) = M
              have := hT.out
              rw [HSP.out, List.length_append, List.length_replicate]; omega
            have hT1 := hT.out
            have e6 : decide (room < c) = false := by simpa using hrc
            have hcr : c ≤ room := by omega
            have hdl : d.length + c ≤ 1099511627776 := by omega
            clear e1 hst hU hT HST hp hg hla hT1 hrc
            go_wp2
            go_quiet (fail)
            have hbd := below_drewN hb nq
            have c1A : (wr.drewN nq).cell? _ = _ := c1
            have c2A : (wr.drewN nq).cell? _ = _ := c2
            have HOA : Hid ((wr.drewN nq).ownsRow _ _ _ _ _ _) := HO
            clear c1 c2 HO hb hbs
            generalize wr.drewN nq = wA at *
            go_wp2
            clear c1A c2A
            go_loopw [6, 8] (fun t i wq => ∃ j : Nat, j ≤ c ∧ i = .int .u64 j ∧ wq.ownsRow w.heap.size 34 1 t (d.length + j) (cells64 (d ++ List.replicate j x)) ∧ Below w.heap.size w wq)
              (fun _ i _ => c - (intOf i).toNat)
            case atStart => exact ⟨0, by omega, rfl, by simpa using HOA.out, hbd⟩
            case round =>
              clear HOA hbd
              obtain ⟨j, hj, rfl, ho, hb⟩ := hrel
              have hbq := hb.size
              have c1 := cell_later c1w hb
              have c2 := cell_later c2w hb
              by_cases hjc : j < c
              · have HO := Lib.hid ho
                clear ho
                go_wp2_with (at_builtin; refine append_one _ (.int .u64 x) rfl (.tmp 61) (.tmp 67) 22 rfl w.heap.size 34 _ _ Try.underlying22 Try.infoU64 rfl rfl _ _ _ rfl HO.out rfl (by unfold maxLen; omega) (by omega) hbq ?_)
                intro v' w1 ho1 hb1 hgr
                rw [cells64_push, List.append_assoc, ← List.replicate_succ'] at ho1
                have HO1 := Lib.hid ho1
                have HB1 := Lib.hid (hb.trans hb1)
                clear ho1 hb hb1 hgr
                go_wp2
                go_roundw
                case rel => exact ⟨j + 1, by omega, by go_num, HO1.out, HB1.out⟩
                case measure => simp [intOf]; omega
              · obtain rfl : j = c := by omega
                rw [← HSP.out, show d.length + j = (spreads (rs.take (k + 1))).length by rw [HSP.out]; simp] at ho
                have HO := Lib.hid ho
                clear ho
                go_wp2
                go_roundw
                case rel => exact ⟨k + 1, room - j, by omega, by go_num, HO.out, hU', hT', hb⟩
                case measure => simp [intOf]; omega
        · obtain ⟨m, hkm⟩ : ∃ m, k = m + 1 := ⟨k - 1, by omega⟩
          obtain ⟨⟨y, yc⟩, hgm⟩ : ∃ q, rs[m]? = some q := ⟨_, List.getElem?_eq_getElem (by omega)⟩
          obtain ⟨b', off', hbo, c3w, -⟩ := seq2_at H.out hgm (by omega)
          simp only [Option.some.injEq, Addr.mk.injEq, and_true] at hbo
          obtain ⟨rfl, rfl⟩ := hbo
          have c3 := cell_later c3w hb
          simp only at c3
          have hla0 : lastIs (rs.take k) x = decide (y = x) := by rw [hkm, List.take_add_one, hgm]; exact lastIs_snoc _ y yc x
          have hk1 : (k : Int) - 1 = (m : Int) := by omega
          have hmi : (m : Int) < (rs.length : Int) := by omega
          have e7 : decide ((0 : Int) < (k : Int)) = true := by simp; omega
          have e9 : decide (0 < k) = true := by simp; omega
          clear hgm c3w hkm hk0
          by_cases hyx : y = x
          · have hla : lastIs (rs.take k) x = true := by rw [hla0]; simpa using hyx
            have e1 : fitE (rs.take k) x c room = 3 := by unfold fitE; rw [if_neg hc0, if_pos hla]
            have hst := HST.out
            rw [e1, if_neg (by omega)] at hst
            have hUE : unpackE [] rs M = 3 := hU.out.trans hst
            have HUE : Hid (unpErr rs M = 3) := HE1.out.trans hUE
            have HUO : Hid (unpOut rs M = []) := by show unpOut rs M = []; rw [HE2.out, hUE, if_neg (by omega)]
            have e8 : ((x : Int) == (y : Int)) = true := by simp; omega
            clear e1 hst hUE hU hT HST HSP hp hg hla hla0 hyx
            go_wp2
            go_quiet (fail)
            go_wp2
            go_ret2
            exact ⟨_, by rw [HUE.out]; rfl, by rw [HUO.out]; exact World.ownsRow_nil _ _ _ _, below_drewN hb _⟩
          · have hla : lastIs (rs.take k) x = false := by rw [hla0]; simpa using hyx
            have e8 : ((x : Int) == (y : Int)) = false := by simp; omega
            clear hla0 hyx
            by_cases hrc : room < c
            · have e1 : fitE (rs.take (k)) x c room = 4 := by unfold fitE; rw [if_neg hc0, hla, if_neg (by decide), if_pos hrc]
              have hst := HST.out
              rw [e1, if_neg (by omega)] at hst
              have hUE : unpackE [] rs M = 4 := hU.out.trans hst
              have HUE : Hid (unpErr rs M = 4) := HE1.out.trans hUE
              have HUO : Hid (unpOut rs M = []) := by show unpOut rs M = []; rw [HE2.out, hUE, if_neg (by omega)]
              have e6 : decide (room < c) = true := by simpa using hrc
              clear e1 hst hUE hU hT HST HSP hp hg hla
              go_wp2
              go_quiet (fail)
              go_wp2
              go_ret2
              exact ⟨_, by rw [HUE.out]; rfl, by rw [HUO.out]; exact World.ownsRow_nil _ _ _ _, below_drewN hb _⟩
            · have e1 : fitE (rs.take (k)) x c room = 0 := by unfold fitE; rw [if_neg hc0, hla, if_neg (by decide), if_neg hrc]
              have hst := HST.out
              rw [e1, if_pos rfl] at hst
              have hU' : Hid (unpackE [] rs M = unpackE (rs.take (k + 1)) (rs.drop (k + 1)) (room - c)) := hU.out.trans hst
              have hT' : Hid ((spreads (rs.take (k + 1))).length + (room - c) = M) := by
                show (spreads (rs.take (k + 1))).length + (room - c) = M
                have := hT.out
                rw [HSP.out, List.length_append, List.length_replicate]; omega
              have hT1 := hT.out
              have e6 : decide (room < c) = false := by simpa using hrc
              have hcr : c ≤ room := by omega
              have hdl : d.length + c ≤ 1099511627776 := by omega
              clear e1 hst hU hT HST hp hg hla hT1 hrc
              go_wp2
              go_quiet (fail)
              have hbd := below_drewN hb nq
              have c1A : (wr.drewN nq).cell? _ = _ := c1
              have c2A : (wr.drewN nq).cell? _ = _ := c2
              have HOA : Hid ((wr.drewN nq).ownsRow _ _ _ _ _ _) := HO
              clear c1 c2 HO hb hbs
              generalize wr.drewN nq = wA at *
              go_wp2
              clear c1A c2A
              go_loopw [6, 8] (fun t i wq => ∃ j : Nat, j ≤ c ∧ i = .int .u64 j ∧ wq.ownsRow w.heap.size 34 1 t (d.length + j) (cells64 (d ++ List.replicate j x)) ∧ Below w.heap.size w wq)
                (fun _ i _ => c - (intOf i).toNat)
              case atStart => exact ⟨0, by omega, rfl, by simpa using HOA.out, hbd⟩
              case round =>
                clear HOA hbd
                obtain ⟨j, hj, rfl, ho, hb⟩ := hrel
                have hbq := hb.size
                have c1 := cell_later c1w hb
                have c2 := cell_later c2w hb
                by_cases hjc : j < c
                · have HO := Lib.hid ho
                  clear ho
                  go_wp2_with (at_builtin; refine append_one _ (.int .u64 x) rfl (.tmp 61) (.tmp 67) 22 rfl w.heap.size 34 _ _ Try.underlying22 Try.infoU64 rfl rfl _ _ _ rfl HO.out rfl (by unfold maxLen; omega) (by omega) hbq ?_)
                  intro v' w1 ho1 hb1 hgr
                  rw [cells64_push, List.append_assoc, ← List.replicate_succ'] at ho1
                  have HO1 := Lib.hid ho1
                  have HB1 := Lib.hid (hb.trans hb1)
                  clear ho1 hb hb1 hgr
                  go_wp2
                  go_roundw
                  case rel => exact ⟨j + 1, by omega, by go_num, HO1.out, HB1.out⟩
                  case measure => simp [intOf]; omega
                · obtain rfl : j = c := by omega
                  rw [← HSP.out, show d.length + j = (spreads (rs.take (k + 1))).length by rw [HSP.out]; simp] at ho
                  have HO := Lib.hid ho
                  clear ho
                  go_wp2
                  go_roundw
                  case rel => exact ⟨k + 1, room - j, by omega, by go_num, HO.out, hU', hT', hb⟩
                  case measure => simp [intOf]; omega
    · obtain rfl : k = rs.length := by omega
      have hU := hU.out
      rw [List.take_of_length_le (Nat.le_refl _), List.drop_of_length_le (Nat.le_refl _)] at hU
      rw [List.take_of_length_le (Nat.le_refl _)] at ho
      have hU2 : unpackE [] rs M = 0 := hU
      have HU2 : Hid (unpErr rs M = 0) := HE1.out.trans hU2
      have HUO : Hid (unpOut rs M = spreads rs) := by show unpOut rs M = _; rw [HE2.out, hU2, if_pos rfl]
      have HO := Lib.hid ho
      clear hU hU2 ho
      go_wp2
      go_ret2
      exact ⟨_, by rw [HU2.out]; rfl, by rw [HUO.out]; exact HO.out, hb⟩
end Go.Proofs.Ytjkgckdldmhgjaa
