import Derived.Test.YtahojmioonpodaaSlots4
namespace Go.Proofs.Ytahojmioonpodaa
open Go.RowKit
set_option linter.unusedVariables false
set_option linter.unusedSimpArgs false
theorem kept_one_below {a b c : World} {g : Nat} (h : Kept (oneRow g) a b) (k : Below b.heap.size b c) : Kept (oneRow g) a c := kept_below_ h k
theorem kept_one_put3 {a w : World} (n g i j k : Nat) (u v x : Value) (h : Kept (oneRow g) a w) : Kept (oneRow g) a ((((w.drewN n).setCell ⟨g, i, none⟩ u).setCell ⟨g, j, none⟩ v).setCell ⟨g, k, none⟩ x) :=
  h.trans (kept_put3 w n g i j k u v x) (fun _ _ h => h)
theorem kept_one_put {a w : World} (g i : Nat) (u : Value) (h : Kept (oneRow g) a w) : Kept (oneRow g) a (w.setCell ⟨g, i, none⟩ u) := h.trans (Kept.put w g i u) (fun _ _ h => h)
theorem kept_one_drewN {a w : World} {g : Nat} (n : Nat) (h : Kept (oneRow g) a w) : Kept (oneRow g) a (w.drewN n) := h.trans (Kept.drewN (oneRow g) w n) (fun _ _ h => h)
section
variable {w : World} {g o : Nat} {T : TypeId} {pre post : List Value} {r : Nat} {L : List Sl}
theorem slotsHas (j : Int) (t : Nat) (h : SlAt w g T pre post r L) (ho : pre.length = o) (ht : t ≤ 18446744073709551615) :
    Calls Try.prog 50 #[.pointer (some ⟨g, o, none⟩), .int .i64 j, .int .u64 t] w fun e w' => e = .returned (.bool (decide (getE r L j t = 0))) ∧ Below w.heap.size w w' := by
  have HM := Lib.hid (slotsMay j t h ho ht)
  clear h ht ho
  generalize getE r L j t = E at *
  go_enter Try.func50, Try.ntmps50
  go_wp2_with fail
  refine HM.out.mono ?_
  rintro e w1 ⟨rfl, hb⟩
  go_wp2
  go_ret
  exact ⟨ret_bool (by rw [Bool.eq_iff_iff]; simp; try omega), hb⟩
set_option maxHeartbeats 1000000 in
set_option maxRecDepth 100000 in
theorem slotsGet (j : Int) (t : Nat) (h : SlAt w g T pre post r L) (ho : pre.length = o) (ht : t ≤ 18446744073709551615) :
    Calls Try.prog 52 #[.pointer (some ⟨g, o, none⟩), .int .i64 j, .int .u64 t] w fun e w' =>
      e = .returned (.tuple #[.int .u64 (getV r L j t : Nat), .int .i64 (getE r L j t : Nat)]) ∧ SlAt w' g T pre post r (getS r L j t) ∧ Kept (oneRow g) w w' := by
  have HM := Lib.hid (slotsMay j t h ho ht)
  subst ho
  by_cases hE : getE r L j t = 0
  · obtain ⟨ht2, hj0, hjr, hxs, hxb⟩ := getE_ok hE
    obtain ⟨jn, rfl⟩ : ∃ n : Nat, j = n := ⟨j.toNat, by omega⟩
    have hxb : hasBit (slX L t).l jn = true := hxb
    have hV : getV r L jn t = (slX L t).v := by unfold getV; rw [if_pos hE]
    have hS : getS r L jn t = L.set (t % L.length) (gotX L.length (slX L t) jn t) := by unfold getS; rw [if_pos hE]; rfl
    have hG : gotX L.length (slX L t) jn t = if (slX L t).l - 2 ^ jn = 0 then ⟨2 * (t + L.length), 0, 0⟩ else ⟨(slX L t).s, (slX L t).v, (slX L t).l - 2 ^ jn⟩ := rfl
    have hx := slX_get h.ok.1 t
    have hi : t % L.length < L.length := Nat.mod_lt _ h.ok.1
    have hl := h.ok.2.1
    have hl1 := h.ok.1
    have hr := h.ok.2.2.2.1
    obtain ⟨x0, x1, x2, x3⟩ := slX_ok h.ok t
    have hey := everyN_pos hr
    have hle := hasBit_le x2 hxb
    have han := andNot_bit (l := (slX L t).l) (j := jn) x2 (by omega) (by omega) hxb
    have hpp : (0 : Int) < 2 ^ jn := Int.pow_pos (by decide)
    have hP := fun w' (hc : SlAt w' g T pre post r L) => slotsPlace g pre.length L.length t w' hc.heads.1 hl1 hl ht
    have hF := fun w => slotsFree (t + L.length) w (by omega)
    have hB := fun w => slotsBit jn w (by omega)
    rw [hE] at HM
    obtain ⟨c, hc⟩ : ∃ c, L.length = c := ⟨_, rfl⟩
    generalize ho : pre.length = o at *
    generalize hi2 : t % L.length = i at *
    generalize slX L t = x at *
    generalize (2 : Int) ^ jn = p at *
    rw [hc] at hi hl hl1 hF hG hS
    rw [hE, hV, hS]
    have hi64 : ((i : Nat) : Int) < 64 := by omega
    have HP := Lib.hid hP
    have HF := Lib.hid hF
    have HB := Lib.hid hB
    have HG := Lib.hid hG
    have HX := Lib.hid hx
    have HC := Lib.hid hc
    have HO := Lib.hid ho
    have H := Lib.hid h
    have hvx : x.v ≤ 18446744073709551615 := by omega
    obtain ⟨y, hy⟩ : ∃ y : Int, x.l - p = y := ⟨_, rfl⟩
    rw [hy] at han HG
    have hy0 : 0 ≤ y := by omega
    have hy1 : y ≤ everyN r := by omega
    have hyok : slOk r ⟨x.s, x.v, y⟩ := ⟨x0, x1, hy0, hy1⟩
    have hzok : slOk r ⟨2 * (t + c), 0, 0⟩ := ⟨by simp only; omega, by simp only; omega, by simp only; omega, by simp only; omega⟩
    have HY := Lib.hid hyok
    have HZ := Lib.hid hzok
    clear hP hF hB hG hx hc h hE hV hS hi2 hxb hxs hle hyok hzok x3 x2 hy ho
    go_enter Try.func52, Try.ntmps52
    go_wp2_with fail
    refine HM.out.mono ?_
    rintro e w1 ⟨rfl, hb1⟩
    have H1 := Lib.hid (H.out.later hb1)
    have hk1 : Kept (oneRow g) w w1 := (Kept.of_below hb1).mono (fun _ _ hf => hf.elim)
    clear H hb1 HM
    go_wp2
    go_quiet ((go_at_call 63; exact quiet_same3 (HP.out _ H1.out) ⟨_, rfl⟩))
    have H2 : Hid (SlAt (w1.drewN nq) g T pre post r L) := H1
    have hk2 := kept_one_drewN nq hk1
    clear H1 hk1
    generalize w1.drewN nq = w2 at *
    obtain ⟨c0, c1, c2⟩ := H2.out.cells HX.out
    have f2 := H2.out.free (pre.length + 2 + i * 3 + 2)
    rw [HO.out] at c0 c1 c2 f2
    go_wp2
    go_region_with (go_at_call 67; refine (HB.out _).mono ?_; rintro e w' ⟨rfl, rfl⟩)
    all_goals
      have h3 := H2.out.put1 (j := 2) (y := ⟨x.s, x.v, y⟩) (u := .int .i64 y) HX.out (by decide) rfl HY.out
      rw [HO.out] at h3
      have H3 : Hid (SlAt (w2.setCell ⟨g, o + 2 + i * 3 + 2, none⟩ (.int .i64 y)).drew g T pre post r (L.set i ⟨x.s, x.v, y⟩)) := h3
      have hk3 : Kept (oneRow g) w (w2.setCell ⟨g, o + 2 + i * 3 + 2, none⟩ (.int .i64 y)).drew := kept_one_drewN 1 (kept_one_put g _ _ hk2)
      have hil : i < L.length := by rw [HC.out]; exact hi
      have hx3 : (L.set i ⟨x.s, x.v, y⟩)[i]? = some ⟨x.s, x.v, y⟩ := by rw [List.getElem?_set_self hil]
      clear c0 c1 c2 f2 H2 hk2 h3
      generalize World.drew (w2.setCell ⟨g, o + 2 + i * 3 + 2, none⟩ (.int .i64 y)) = w3 at *
      have d2 := (H3.out.cells hx3).2.2
      have d1 := (H3.out.cells hx3).2.1
      have d0 := (H3.out.cells hx3).1
      have dp := H3.out.heads.1
      rw [HO.out] at d0 d1 d2 dp
      rw [List.length_set, HC.out] at dp
      by_cases hz : y = 0
      · have e3 : (y == 0) = true := by rw [beq_iff_eq]; exact hz
        have hG := HG.out
        rw [if_pos hz] at hG
        have hp3 := H3.out.put3 hx3 HZ.out
        have e4 : L.set i ⟨2 * (t + c), 0, 0⟩ = L.set i (gotX c x jn t) := by rw [hG]
        rw [HO.out, List.set_set, e4] at hp3
        have HP3 := Lib.hid hp3
        have f0 := H3.out.free (o + 2 + i * 3)
        have f1 := H3.out.free (o + 2 + i * 3 + 1)
        have f2 := H3.out.free (o + 2 + i * 3 + 2)
        clear hz hG HG hp3 H3 e4
        go_wp2_with fail
        refine (HF.out _).mono ?_
        rintro e w' ⟨rfl, rfl⟩
        go_wp2
        go_ret2
        exact ⟨rfl, HP3.out, kept_one_put3 0 _ _ _ _ _ _ _ hk3⟩
      · have e3 : (y == 0) = false := by rw [beq_eq_false_iff_ne]; exact hz
        have hG := HG.out
        rw [if_neg hz] at hG
        have h4 := H3.out
        rw [← hG] at h4
        have H4 := Lib.hid h4
        clear hz hG HG H3 h4
        go_wp2
        go_ret2
        exact ⟨rfl, H4.out, hk3⟩
  · have hV : getV r L j t = 0 := by unfold getV; rw [if_neg hE]
    have hS : getS r L j t = L := by unfold getS; rw [if_neg hE]
    rw [hV, hS]
    have H := Lib.hid h
    have hlt : getE r L j t ≤ 11 := by unfold getE; repeat' split
                                       all_goals omega
    clear h hV hS
    generalize getE r L j t = E at *
    have e1 : ((E : Int) != 0) = true := by simp; omega
    go_enter Try.func52, Try.ntmps52
    go_wp2_with fail
    refine HM.out.mono ?_
    rintro e w1 ⟨rfl, hb⟩
    go_wp2
    go_ret2
    exact ⟨rfl, H.out.later hb, (Kept.of_below hb).mono (fun _ _ hf => hf.elim)⟩
end
end Go.Proofs.Ytahojmioonpodaa
