import Derived.Test.YtahojmioonpodaaSlref3
import Derived.Test.YtahojmioonpodaaSlbits
namespace Go.Proofs.Ytahojmioonpodaa
open Go.RowKit
set_option linter.unusedVariables false
set_option linter.unusedSimpArgs false
/-- .. and with the place that is looked at. -/
def getW (w : World) (A : Option Addr) (c r n : Nat) (x : Sl) : World := (putW w A c r n).alloc (.cells #[.int .u64 (x.s : Int), .int .u64 (x.v : Int), .int .i64 x.l] 78)
theorem getW_facts (w : World) (A : Option Addr) (c r n : Nat) (x : Sl) : Below w.heap.size w (getW w A c r n x) ∧ (getW w A c r n x).heap.size = w.heap.size + 1 + 1 + 1 ∧
    Lies (getW w A c r n x) w.heap.size 36 #[.slice A n c, .int .i64 (r : Int)] ∧
    Lies (getW w A c r n x) (w.heap.size + 1) 36 #[.slice none 0 0, .int .i64 0] ∧
    Lies (getW w A c r n x) (w.heap.size + 1 + 1) 78 #[.int .u64 (x.s : Int), .int .u64 (x.v : Int), .int .i64 x.l] := by
  obtain ⟨k1, k2, k3, k4⟩ := putW_facts w A c r n
  have l := Lies.made (putW w A c r n) 78 #[.int .u64 (x.s : Int), .int .u64 (x.v : Int), .int .i64 x.l]
  rw [k2] at l
  exact ⟨k1.alloc k1.size _, by unfold getW; rw [World.size_alloc, k2], k3.alloc _, k4.alloc _, l⟩
set_option maxHeartbeats 4000000 in
set_option maxRecDepth 100000 in
theorem ref12Get (v0 : Value) (r t : Nat) (j : Int) (L : List Sl) (w : World) (h : RefSl w v0 r L) (hl : SlOk r L) (ht : t ≤ 18446744073709551615) :
    Calls Try.prog 57 #[v0, .int .i64 j, .int .u64 t] w fun e w' => ∃ v', e = .returned (.tuple #[.int .u64 (getV r L j t : Nat), .int .i64 (getE r L j t : Nat), v']) ∧ RefSl w' v' r (getS r L j t) ∧ Below w.heap.size w w' ∧ ∀ B, RefFrom B v0 → B ≤ w.heap.size → RefFrom B v' := by
  obtain ⟨A, c, rfl, hs⟩ := h
  obtain ⟨k1, k2, k3, k4⟩ := putW_facts w A c r L.length
  have c0 := k3.cell 0
  have c1 := k3.cell 1
  have d0 := k4.cell 0
  have d1 := k4.cell 1
  have f0 := k4.free 0
  have f1 := k4.free 1
  simp at c0 c1 d0 d1
  have HV1 := Lib.hid (slice_put (.slice A L.length c) (.int .i64 (r : Int)) k4)
  have HB1 := Lib.hid ((k1.setCell (p := ⟨w.heap.size + 1, 0, none⟩) (show w.heap.size ≤ w.heap.size + 1 by omega) (.slice A L.length c)).setCell (p := ⟨w.heap.size + 1, 1, none⟩) (show w.heap.size ≤ w.heap.size + 1 by omega) (.int .i64 (r : Int)))
  have HSL := Lib.hid hs
  have HW : Hid (putW w A c r L.length = (w.alloc (.cells #[.slice A L.length c, .int .i64 (r : Int)] 36)).alloc (.cells #[.slice none 0 0, .int .i64 0] 36)) := rfl
  by_cases hb : 4611686018427387904 ≤ t
  · have e0 : decide ((4611686018427387904 : Int) ≤ (t : Int)) = true := by rw [decide_eq_true_eq]; omega
    have hE : getE r L j t = 1 := if_pos ((.inl hb))
    have HE := Lib.hid hE
    have HV : Hid (getV r L j t = 0) := by show _ = _; unfold getV; rw [hE, if_neg (by decide)]
    have HSS : Hid (getS r L j t = L) := by show _ = _; unfold getS; rw [hE, if_neg (by decide)]
    clear hE k1 k2 k3 k4 hs
    go_enter Try.func57, Try.ntmps57
    go_wp2
    rw [← HW.out]
    generalize putW w A c r L.length = w1 at *
    go_region
    all_goals
      have w2 : Hid (Lies (World.drew ((w1.setCell ⟨w.heap.size + 1, 0, none⟩ (.slice A L.length c)).setCell ⟨w.heap.size + 1, 1, none⟩ (.int .i64 (r : Int)))) (w.heap.size + 1) 36 #[.slice A L.length c, .int .i64 (r : Int)]) := HV1
      have q0 := (w2.out.cell 0).trans (show _ = some (Value.slice A L.length c) from rfl)
      have q1 := (w2.out.cell 1).trans (show _ = some (Value.int .i64 (r : Int)) from rfl)
      have hb2 : Below w.heap.size w (World.drew ((w1.setCell ⟨w.heap.size + 1, 0, none⟩ (.slice A L.length c)).setCell ⟨w.heap.size + 1, 1, none⟩ (.int .i64 (r : Int)))) := below_drewN HB1.out 1
      clear w2
      generalize (World.drew ((w1.setCell ⟨w.heap.size + 1, 0, none⟩ (.slice A L.length c)).setCell ⟨w.heap.size + 1, 1, none⟩ (.int .i64 (r : Int)))) = w3 at *
      go_wp2
      refine bodyPost_ret (v := .tuple #[.int .u64 0, .int .i64 1, .agg #[.slice A L.length c, .int .i64 (r : Int)]]) (by simp [results, Try.results57, go_sem, q0, q1]) rfl ?_
      exact ⟨_, by rw [HE.out, HV.out]; rfl, ⟨A, c, by rw [HSS.out], by rw [HSS.out]; exact HSL.out.later hb2⟩, hb2, fun B hB _ => hB⟩
  have e0 : decide ((4611686018427387904 : Int) ≤ (t : Int)) = false := by rw [decide_eq_false_iff_not]; omega
  by_cases hj0 : j < 0
  · have e1 : decide (j < (0 : Int)) = true := by simpa using hj0
    have hE : getE r L j t = 1 := if_pos ((.inr (.inl hj0)))
    have HE := Lib.hid hE
    have HV : Hid (getV r L j t = 0) := by show _ = _; unfold getV; rw [hE, if_neg (by decide)]
    have HSS : Hid (getS r L j t = L) := by show _ = _; unfold getS; rw [hE, if_neg (by decide)]
    clear hE k1 k2 k3 k4 hs
    go_enter Try.func57, Try.ntmps57
    go_wp2
    rw [← HW.out]
    generalize putW w A c r L.length = w1 at *
    go_region
    all_goals
      have w2 : Hid (Lies (World.drew ((w1.setCell ⟨w.heap.size + 1, 0, none⟩ (.slice A L.length c)).setCell ⟨w.heap.size + 1, 1, none⟩ (.int .i64 (r : Int)))) (w.heap.size + 1) 36 #[.slice A L.length c, .int .i64 (r : Int)]) := HV1
      have q0 := (w2.out.cell 0).trans (show _ = some (Value.slice A L.length c) from rfl)
      have q1 := (w2.out.cell 1).trans (show _ = some (Value.int .i64 (r : Int)) from rfl)
      have hb2 : Below w.heap.size w (World.drew ((w1.setCell ⟨w.heap.size + 1, 0, none⟩ (.slice A L.length c)).setCell ⟨w.heap.size + 1, 1, none⟩ (.int .i64 (r : Int)))) := below_drewN HB1.out 1
      clear w2
      generalize (World.drew ((w1.setCell ⟨w.heap.size + 1, 0, none⟩ (.slice A L.length c)).setCell ⟨w.heap.size + 1, 1, none⟩ (.int .i64 (r : Int)))) = w3 at *
      go_wp2
      refine bodyPost_ret (v := .tuple #[.int .u64 0, .int .i64 1, .agg #[.slice A L.length c, .int .i64 (r : Int)]]) (by simp [results, Try.results57, go_sem, q0, q1]) rfl ?_
      exact ⟨_, by rw [HE.out, HV.out]; rfl, ⟨A, c, by rw [HSS.out], by rw [HSS.out]; exact HSL.out.later hb2⟩, hb2, fun B hB _ => hB⟩
  have e1 : decide (j < (0 : Int)) = false := by simpa using hj0
  by_cases hjr : (r : Int) ≤ j
  · have e2 : decide ((r : Int) ≤ j) = true := by simpa using hjr
    have hE : getE r L j t = 1 := if_pos ((.inr (.inr hjr)))
    have HE := Lib.hid hE
    have HV : Hid (getV r L j t = 0) := by show _ = _; unfold getV; rw [hE, if_neg (by decide)]
    have HSS : Hid (getS r L j t = L) := by show _ = _; unfold getS; rw [hE, if_neg (by decide)]
    clear hE k1 k2 k3 k4 hs
    go_enter Try.func57, Try.ntmps57
    go_wp2
    rw [← HW.out]
    generalize putW w A c r L.length = w1 at *
    go_region
    all_goals
      have w2 : Hid (Lies (World.drew ((w1.setCell ⟨w.heap.size + 1, 0, none⟩ (.slice A L.length c)).setCell ⟨w.heap.size + 1, 1, none⟩ (.int .i64 (r : Int)))) (w.heap.size + 1) 36 #[.slice A L.length c, .int .i64 (r : Int)]) := HV1
      have q0 := (w2.out.cell 0).trans (show _ = some (Value.slice A L.length c) from rfl)
      have q1 := (w2.out.cell 1).trans (show _ = some (Value.int .i64 (r : Int)) from rfl)
      have hb2 : Below w.heap.size w (World.drew ((w1.setCell ⟨w.heap.size + 1, 0, none⟩ (.slice A L.length c)).setCell ⟨w.heap.size + 1, 1, none⟩ (.int .i64 (r : Int)))) := below_drewN HB1.out 1
      clear w2
      generalize (World.drew ((w1.setCell ⟨w.heap.size + 1, 0, none⟩ (.slice A L.length c)).setCell ⟨w.heap.size + 1, 1, none⟩ (.int .i64 (r : Int)))) = w3 at *
      go_wp2
      refine bodyPost_ret (v := .tuple #[.int .u64 0, .int .i64 1, .agg #[.slice A L.length c, .int .i64 (r : Int)]]) (by simp [results, Try.results57, go_sem, q0, q1]) rfl ?_
      exact ⟨_, by rw [HE.out, HV.out]; rfl, ⟨A, c, by rw [HSS.out], by rw [HSS.out]; exact HSL.out.later hb2⟩, hb2, fun B hB _ => hB⟩
  obtain ⟨jn, rfl⟩ : ∃ n : Nat, j = n := ⟨j.toNat, by omega⟩
  have e2 : decide (r ≤ jn) = false := by rw [decide_eq_false_iff_not]; omega
  have hjr8 : jn ≤ 8 := by have := hl.2.2.2.1; omega
  have hx := slX_get hl.1 t
  obtain ⟨b, off, rfl, hbl, gx⟩ := SeqS.at_ slF_length (by decide) hs hx
  have x0 := gx 0 _ (by decide) rfl
  have x1 := gx 1 _ (by decide) rfl
  have x2 := gx 2 _ (by decide) rfl
  rw [Nat.add_zero] at x0
  obtain ⟨s0, s1, s2, s3⟩ := slX_ok hl t
  have hi : t % L.length < L.length := Nat.mod_lt _ hl.1
  have hE : getE r L jn t = if (slX L t).s < 2 * t + 1 then 9 else if 2 * t + 1 < (slX L t).s ∨ hasBit (slX L t).l jn = false then 11 else 0 := by unfold getE; rw [if_neg (by omega)]; rfl
  have hV0 : getV r L jn t = if getE r L jn t = 0 then (slX L t).v else 0 := rfl
  have hS0 : getS r L jn t = if getE r L jn t = 0 then L.set (t % L.length) (gotX L.length (slX L t) jn t) else L := rfl
  have hG : gotX L.length (slX L t) jn t = if (slX L t).l - 2 ^ jn = 0 then ⟨2 * (t + L.length), 0, 0⟩ else ⟨(slX L t).s, (slX L t).v, (slX L t).l - 2 ^ jn⟩ := rfl
  have hl1 := hl.1
  have hl2 := hl.2.1
  have hr := hl.2.2.2.1
  have hmw : IntKind.u64.wrap (L.length : Int) = (L.length : Int) := by rw [IntKind.wrap_u64]; omega
  have hmt : Int.tmod (t : Int) (L.length : Int) = ((t % L.length : Nat) : Int) := rfl
  have hey := everyN_pos hr
  have hbit := fun w => ref12Bit (slX L t).l.toNat jn w (by omega) (by omega)
  have hble := fun (hb : hasBit (slX L t).l jn = true) => hasBit_le s2 hb
  rw [show (((slX L t).l.toNat : Nat) : Int) = (slX L t).l by omega] at hbit
  obtain ⟨g1, g2, g3, g4, g5⟩ := getW_facts w (some ⟨b, off, none⟩) c r L.length (slX L t)
  have HBI := Lib.hid hbit
  have HBLE := Lib.hid hble
  have hi2 : ((t % L.length : Nat) : Int) < (L.length : Int) := by omega
  have HE0 := Lib.hid hE
  have HV0 := Lib.hid hV0
  have HS0 := Lib.hid hS0
  have HG := Lib.hid hG
  have HAL := Lib.hid (fun w => ref12All jn w (by omega))
  have ht2 : t ≤ 4611686018427387903 := by omega
  clear hE hb k1 k2 k3 k4 hs gx hx hV0 hS0 hG hbit HV1 HB1 c0 c1 d0 d1 f0 f1 hj0 hjr hble
  generalize t % L.length = i at *
  generalize slX L t = x at *
  have c0 := g3.cell 0
  have c1 := g3.cell 1
  have d0 := g4.cell 0
  have d1 := g4.cell 1
  have f0 := g4.free 0
  have f1 := g4.free 1
  have y0 := g5.cell 0
  have y1 := g5.cell 1
  have y2 := g5.cell 2
  have yf := g5.free 2
  simp at c0 c1 d0 d1 y0 y1 y2
  have HV1 := Lib.hid (slice_put (.slice (some ⟨b, off, none⟩) L.length c) (.int .i64 (r : Int)) g4)
  have HB1 := Lib.hid ((g1.setCell (p := ⟨w.heap.size + 1, 0, none⟩) (show w.heap.size ≤ w.heap.size + 1 by omega) (.slice (some ⟨b, off, none⟩) L.length c)).setCell (p := ⟨w.heap.size + 1, 1, none⟩) (show w.heap.size ≤ w.heap.size + 1 by omega) (.int .i64 (r : Int)))
  have HW2 : Hid (getW w (some ⟨b, off, none⟩) c r L.length x = ((w.alloc (.cells #[.slice (some ⟨b, off, none⟩) L.length c, .int .i64 (r : Int)] 36)).alloc (.cells #[.slice none 0 0, .int .i64 0] 36)).alloc (.cells #[.int .u64 (x.s : Int), .int .u64 (x.v : Int), .int .i64 x.l] 78)) := rfl
  have G1 := Lib.hid g1
  have G3 := Lib.hid g3
  have G4 := Lib.hid g4
  have G5 := Lib.hid g5
  clear g1 g2 g3 g4 g5
  by_cases q1 : x.s < 2 * t + 1
  · have e3 : decide ((x.s : Int) < 2 * (t : Int) + 1) = true := by rw [decide_eq_true_eq]; omega
    have hE := HE0.out
    rw [if_pos q1] at hE
    have HE := Lib.hid hE
    have HV : Hid (getV r L jn t = 0) := by show _ = _; rw [HV0.out, hE, if_neg (by decide)]
    have HSS : Hid (getS r L jn t = L) := by show _ = _; rw [HS0.out, hE, if_neg (by decide)]
    clear q1 hE
    go_enter Try.func57, Try.ntmps57
    go_wp2_with fail
    rw [← HW2.out]
    generalize getW w (some ⟨b, off, none⟩) c r L.length x = w1 at *
    go_region
    all_goals
      have w2 : Hid (Lies (World.drew ((w1.setCell ⟨w.heap.size + 1, 0, none⟩ (.slice (some ⟨b, off, none⟩) L.length c)).setCell ⟨w.heap.size + 1, 1, none⟩ (.int .i64 (r : Int)))) (w.heap.size + 1) 36 #[.slice (some ⟨b, off, none⟩) L.length c, .int .i64 (r : Int)]) := HV1
      have q0 := (w2.out.cell 0).trans (show _ = some (Value.slice (some ⟨b, off, none⟩) L.length c) from rfl)
      have q1 := (w2.out.cell 1).trans (show _ = some (Value.int .i64 (r : Int)) from rfl)
      have hb2 : Below w.heap.size w (World.drew ((w1.setCell ⟨w.heap.size + 1, 0, none⟩ (.slice (some ⟨b, off, none⟩) L.length c)).setCell ⟨w.heap.size + 1, 1, none⟩ (.int .i64 (r : Int)))) := below_drewN HB1.out 1
      clear w2
      generalize (World.drew ((w1.setCell ⟨w.heap.size + 1, 0, none⟩ (.slice (some ⟨b, off, none⟩) L.length c)).setCell ⟨w.heap.size + 1, 1, none⟩ (.int .i64 (r : Int)))) = w3 at *
      go_wp2
      refine bodyPost_ret (v := .tuple #[.int .u64 0, .int .i64 9, .agg #[.slice (some ⟨b, off, none⟩) L.length c, .int .i64 (r : Int)]]) (by simp [results, Try.results57, go_sem, q0, q1]) rfl ?_
      exact ⟨_, by rw [HE.out, HV.out]; rfl, ⟨(some ⟨b, off, none⟩), c, by rw [HSS.out], by rw [HSS.out]; exact HSL.out.later hb2⟩, hb2, fun B hB _ => hB⟩
  have e3 : decide ((x.s : Int) < 2 * (t : Int) + 1) = false := by rw [decide_eq_false_iff_not]; omega
  by_cases q2 : 2 * t + 1 < x.s
  · have e4 : decide (2 * (t : Int) + 1 < (x.s : Int)) = true := by rw [decide_eq_true_eq]; omega
    have hE := HE0.out
    rw [if_neg q1, if_pos (.inl q2)] at hE
    have HE := Lib.hid hE
    have HV : Hid (getV r L jn t = 0) := by show _ = _; rw [HV0.out, hE, if_neg (by decide)]
    have HSS : Hid (getS r L jn t = L) := by show _ = _; rw [HS0.out, hE, if_neg (by decide)]
    clear q1 q2 hE
    go_enter Try.func57, Try.ntmps57
    go_wp2_with fail
    rw [← HW2.out]
    generalize getW w (some ⟨b, off, none⟩) c r L.length x = w1 at *
    go_region
    all_goals
      have w2 : Hid (Lies (World.drew ((w1.setCell ⟨w.heap.size + 1, 0, none⟩ (.slice (some ⟨b, off, none⟩) L.length c)).setCell ⟨w.heap.size + 1, 1, none⟩ (.int .i64 (r : Int)))) (w.heap.size + 1) 36 #[.slice (some ⟨b, off, none⟩) L.length c, .int .i64 (r : Int)]) := HV1
      have q0 := (w2.out.cell 0).trans (show _ = some (Value.slice (some ⟨b, off, none⟩) L.length c) from rfl)
      have q1 := (w2.out.cell 1).trans (show _ = some (Value.int .i64 (r : Int)) from rfl)
      have hb2 : Below w.heap.size w (World.drew ((w1.setCell ⟨w.heap.size + 1, 0, none⟩ (.slice (some ⟨b, off, none⟩) L.length c)).setCell ⟨w.heap.size + 1, 1, none⟩ (.int .i64 (r : Int)))) := below_drewN HB1.out 1
      clear w2
      generalize (World.drew ((w1.setCell ⟨w.heap.size + 1, 0, none⟩ (.slice (some ⟨b, off, none⟩) L.length c)).setCell ⟨w.heap.size + 1, 1, none⟩ (.int .i64 (r : Int)))) = w3 at *
      go_wp2
      refine bodyPost_ret (v := .tuple #[.int .u64 0, .int .i64 11, .agg #[.slice (some ⟨b, off, none⟩) L.length c, .int .i64 (r : Int)]]) (by simp [results, Try.results57, go_sem, q0, q1]) rfl ?_
      exact ⟨_, by rw [HE.out, HV.out]; rfl, ⟨(some ⟨b, off, none⟩), c, by rw [HSS.out], by rw [HSS.out]; exact HSL.out.later hb2⟩, hb2, fun B hB _ => hB⟩
  have e4 : decide (2 * (t : Int) + 1 < (x.s : Int)) = false := by rw [decide_eq_false_iff_not]; omega
  by_cases q3 : hasBit x.l jn = true
  · have hE := HE0.out
    rw [if_neg q1, if_neg (by rw [q3]; simp; omega)] at hE
    have HE := Lib.hid hE
    have HV : Hid (getV r L jn t = x.v) := by show _ = _; rw [HV0.out, hE, if_pos rfl]
    have hS := HS0.out
    rw [hE, if_pos rfl] at hS
    have hbi := HBI.out
    rw [q3] at hbi
    have HBI := Lib.hid hbi
    have hle := HBLE.out q3
    obtain ⟨p1, p2⟩ := pow_small (k := jn) (by omega)
    have hev : everyN jn = 2 ^ jn - 1 := rfl
    have hG := HG.out
    generalize (2 : Int) ^ jn = p at *
    obtain ⟨y, hy⟩ : ∃ y, x.l - p = y := ⟨_, rfl⟩
    rw [hy] at hG
    have u1 : IntKind.i64.wrap (everyN jn + 1) = everyN jn + 1 := by rw [IntKind.wrap_i64]; omega
    have u2 : IntKind.i64.wrap (x.l - (everyN jn + 1)) = y := by rw [IntKind.wrap_i64]; omega
    have hy0 : 0 ≤ y := by omega
    have hy1 : y ≤ 255 := by omega
    have HS := Lib.hid hS
    have HG2 := Lib.hid hG
    clear hE hS hbi q1 q2 q3 hev hy hG HG HBLE hle p1 p2 HS0 HV0 HE0 HV1 HB1
    go_enter Try.func57, Try.ntmps57
    go_wp2_with fail
    rw [← HW2.out]
    generalize getW w (some ⟨b, off, none⟩) c r L.length x = w1 at *
    refine (HBI.out _).mono ?_
    rintro e w' ⟨rfl, rfl⟩
    go_wp2_with fail
    go_region_with (go_at_call 62; refine (HAL.out _).mono ?_; rintro e w' ⟨rfl, rfl⟩)
    all_goals
      have l0 : Lies (w1.setCell ⟨w.heap.size + 1 + 1, 2, none⟩ (.int .i64 y)).drew w.heap.size 36 #[.slice (some ⟨b, off, none⟩) L.length c, .int .i64 (r : Int)] := (G3.out.far (p := ⟨w.heap.size + 1 + 1, 2, none⟩) (show w.heap.size ≠ w.heap.size + 1 + 1 by omega) _).drew
      have l1 : Lies (w1.setCell ⟨w.heap.size + 1 + 1, 2, none⟩ (.int .i64 y)).drew (w.heap.size + 1) 36 #[.slice none 0 0, .int .i64 0] := (G4.out.far (p := ⟨w.heap.size + 1 + 1, 2, none⟩) (show w.heap.size + 1 ≠ w.heap.size + 1 + 1 by omega) _).drew
      have l2 : Lies (w1.setCell ⟨w.heap.size + 1 + 1, 2, none⟩ (.int .i64 y)).drew (w.heap.size + 1 + 1) 78 #[.int .u64 (x.s : Int), .int .u64 (x.v : Int), .int .i64 y] := (G5.out.put 2 _).drew
      have hbq : Below w.heap.size w (w1.setCell ⟨w.heap.size + 1 + 1, 2, none⟩ (.int .i64 y)).drew := below_drewN (G1.out.setCell (p := ⟨w.heap.size + 1 + 1, 2, none⟩) (show w.heap.size ≤ w.heap.size + 1 + 1 by omega) _) 1
      clear c0 c1 d0 d1 f0 f1 y0 y1 y2 yf
      generalize (w1.setCell ⟨w.heap.size + 1 + 1, 2, none⟩ (.int .i64 y)).drew = w2 at *
      have y2 := (l2.cell 2).trans (show _ = some (Value.int .i64 y) from rfl)
      have c0 := (l0.cell 0).trans (show _ = some (Value.slice (some ⟨b, off, none⟩) L.length c) from rfl)
      by_cases hz : y = 0
      · have e5 : (y == 0) = true := by rw [beq_iff_eq]; exact hz
        have hG := HG2.out
        rw [if_pos hz] at hG
        have y0 := (l2.cell 0).trans (show _ = some (Value.int .u64 (x.s : Int)) from rfl)
        have y1 := (l2.cell 1).trans (show _ = some (Value.int .u64 (x.v : Int)) from rfl)
        have z0 := l2.free 0
        have z1 := l2.free 1
        have z2 := l2.free 2
        have hS := HS.out
        rw [hG] at hS
        have HSS := Lib.hid hS
        have n0 := ((l0.far (p := ⟨w.heap.size + 1 + 1, 0, none⟩) (show w.heap.size ≠ w.heap.size + 1 + 1 by omega) (.int .u64 (2 * ((t : Int) + (L.length : Int))))).far (p := ⟨w.heap.size + 1 + 1, 1, none⟩) (show w.heap.size ≠ w.heap.size + 1 + 1 by omega) (.int .u64 0)).far (p := ⟨w.heap.size + 1 + 1, 2, none⟩) (show w.heap.size ≠ w.heap.size + 1 + 1 by omega) (.int .i64 0)
        have n1 := ((l1.far (p := ⟨w.heap.size + 1 + 1, 0, none⟩) (show w.heap.size + 1 ≠ w.heap.size + 1 + 1 by omega) (.int .u64 (2 * ((t : Int) + (L.length : Int))))).far (p := ⟨w.heap.size + 1 + 1, 1, none⟩) (show w.heap.size + 1 ≠ w.heap.size + 1 + 1 by omega) (.int .u64 0)).far (p := ⟨w.heap.size + 1 + 1, 2, none⟩) (show w.heap.size + 1 ≠ w.heap.size + 1 + 1 by omega) (.int .i64 0)
        have n2 := ((l2.put 0 (.int .u64 (2 * ((t : Int) + (L.length : Int))))).put 1 (.int .u64 0)).put 2 (.int .i64 0)
        have n3 := ((hbq.setCell (p := ⟨w.heap.size + 1 + 1, 0, none⟩) (show w.heap.size ≤ w.heap.size + 1 + 1 by omega) (.int .u64 (2 * ((t : Int) + (L.length : Int))))).setCell (p := ⟨w.heap.size + 1 + 1, 1, none⟩) (show w.heap.size ≤ w.heap.size + 1 + 1 by omega) (.int .u64 0)).setCell (p := ⟨w.heap.size + 1 + 1, 2, none⟩) (show w.heap.size ≤ w.heap.size + 1 + 1 by omega) (.int .i64 0)
        have m0 := (n0.cell 0).trans (show _ = some (Value.slice (some ⟨b, off, none⟩) L.length c) from rfl)
        have m1 := (n0.cell 1).trans (show _ = some (Value.int .i64 (r : Int)) from rfl)
        have m2 := (n2.cell 0).trans (show _ = some (Value.int .u64 (2 * ((t : Int) + (L.length : Int)))) from rfl)
        have m3 := (n2.cell 1).trans (show _ = some (Value.int .u64 0) from rfl)
        have m4 := (n2.cell 2).trans (show _ = some (Value.int .i64 0) from rfl)
        have hwi := with_kept (some ⟨b, off, none⟩) c r i (w.heap.size + 1) L ⟨2 * (t + L.length), 0, 0⟩ _ (HSL.out.later n3) hi hl2 n1
        have hcast : ((2 * (t + L.length) : Nat) : Int) = 2 * ((t : Int) + (L.length : Int)) := by omega
        simp only [hcast] at hwi
        have HL1 := Lib.hid n1
        have HBQ0 := Lib.hid n3
        clear l0 l1 l2 hbq hz hG hS n0 n1 n2 n3 hcast
        have HWI := Lib.hid (hwi)
        have hgl : w.heap.size + 1 < ((((w2.setCell ⟨w.heap.size + 1 + 1, 0, none⟩ (.int .u64 (2 * ((t : Int) + (L.length : Int))))).setCell ⟨w.heap.size + 1 + 1, 1, none⟩ (.int .u64 0)).setCell ⟨w.heap.size + 1 + 1, 2, none⟩ (.int .i64 0))).heap.size := (HL1.out).lt
        have HBQ := Lib.hid (HBQ0.out)
        go_wp2_with fail
        refine HWI.out.mono ?_
        rintro e w7 ⟨q, c', rfl, h0, h1, h2, h3, h4, h5, h6⟩
        have v8 := slice_put (.slice (some ⟨q, 0, none⟩) L.length c') (.int .i64 (r : Int)) h6.out
        have ho := owns_kept (owns_kept h4.out (Kept.put w7 (w.heap.size + 1) 0 (.slice (some ⟨q, 0, none⟩) L.length c')) (fun r' cur hr hl (e : r' = w.heap.size + 1) => by have h5 := (h4.out.lt r' hr).1; omega)) (Kept.put _ (w.heap.size + 1) 1 (.int .i64 (r : Int))) (fun r' cur hr hl (e : r' = w.heap.size + 1) => by have h5 := (h4.out.lt r' hr).1; omega)
        have hb8 := ((HBQ.out.trans (h5.out.mono HBQ.out.size)).setCell (p := ⟨w.heap.size + 1, 0, none⟩) (show w.heap.size ≤ w.heap.size + 1 by omega) (.slice (some ⟨q, 0, none⟩) L.length c')).setCell (p := ⟨w.heap.size + 1, 1, none⟩) (show w.heap.size ≤ w.heap.size + 1 by omega) (.int .i64 (r : Int))
        have HO8 := Lib.hid (SeqS.of_owns ho)
        have HB8 := Lib.hid hb8
        have hq9 := (ho.lt q rfl).1
        have hw9 := HBQ.out.size
        have t0 := (v8.cell 0).trans (show _ = some (Value.slice (some ⟨q, 0, none⟩) L.length c') from rfl)
        have t1 := (v8.cell 1).trans (show _ = some (Value.int .i64 (r : Int)) from rfl)
        clear v8 ho hb8 h4 h5 h6
        go_wp2
        refine bodyPost_ret (v := .tuple #[.int .u64 (x.v : Int), .int .i64 0, .agg #[.slice (some ⟨q, 0, none⟩) L.length c', .int .i64 (r : Int)]]) (by simp [results, Try.results57, go_sem, t0, t1]) rfl ?_
        refine ⟨_, by rw [HE.out, HV.out]; rfl, ⟨some ⟨q, 0, none⟩, c', ?_, ?_⟩, HB8.out, fun B _ hB => RefFrom.some_ (by omega)⟩
        · rw [HSS.out, List.length_set]
        · rw [HSS.out, List.length_set]; exact HO8.out
      · have e5 : (y == 0) = false := by rw [beq_eq_false_iff_ne]; exact hz
        have hG := HG2.out
        rw [if_neg hz] at hG
        have hS := HS.out
        rw [hG] at hS
        have HSS := Lib.hid hS
        clear hz hG hS
        have y0 := (l2.cell 0).trans (show _ = some (Value.int .u64 (x.s : Int)) from rfl)
        have y1 := (l2.cell 1).trans (show _ = some (Value.int .u64 (x.v : Int)) from rfl)
        have c1 := (l0.cell 1).trans (show _ = some (Value.int .i64 (r : Int)) from rfl)
        have hwi := with_kept (some ⟨b, off, none⟩) c r i (w.heap.size + 1) L ⟨x.s, x.v, y⟩ w2 (HSL.out.later hbq) hi hl2 l1
        have HL1 := Lib.hid l1
        have HBQ0 := Lib.hid hbq
        clear l0 l1 l2 hbq
        have HWI := Lib.hid (hwi)
        have hgl : w.heap.size + 1 < (w2).heap.size := (HL1.out).lt
        have HBQ := Lib.hid (HBQ0.out)
        go_wp2_with fail
        refine HWI.out.mono ?_
        rintro e w7 ⟨q, c', rfl, h0, h1, h2, h3, h4, h5, h6⟩
        have v8 := slice_put (.slice (some ⟨q, 0, none⟩) L.length c') (.int .i64 (r : Int)) h6.out
        have ho := owns_kept (owns_kept h4.out (Kept.put w7 (w.heap.size + 1) 0 (.slice (some ⟨q, 0, none⟩) L.length c')) (fun r' cur hr hl (e : r' = w.heap.size + 1) => by have h5 := (h4.out.lt r' hr).1; omega)) (Kept.put _ (w.heap.size + 1) 1 (.int .i64 (r : Int))) (fun r' cur hr hl (e : r' = w.heap.size + 1) => by have h5 := (h4.out.lt r' hr).1; omega)
        have hb8 := ((HBQ.out.trans (h5.out.mono HBQ.out.size)).setCell (p := ⟨w.heap.size + 1, 0, none⟩) (show w.heap.size ≤ w.heap.size + 1 by omega) (.slice (some ⟨q, 0, none⟩) L.length c')).setCell (p := ⟨w.heap.size + 1, 1, none⟩) (show w.heap.size ≤ w.heap.size + 1 by omega) (.int .i64 (r : Int))
        have HO8 := Lib.hid (SeqS.of_owns ho)
        have HB8 := Lib.hid hb8
        have hq9 := (ho.lt q rfl).1
        have hw9 := HBQ.out.size
        have t0 := (v8.cell 0).trans (show _ = some (Value.slice (some ⟨q, 0, none⟩) L.length c') from rfl)
        have t1 := (v8.cell 1).trans (show _ = some (Value.int .i64 (r : Int)) from rfl)
        clear v8 ho hb8 h4 h5 h6
        go_wp2
        refine bodyPost_ret (v := .tuple #[.int .u64 (x.v : Int), .int .i64 0, .agg #[.slice (some ⟨q, 0, none⟩) L.length c', .int .i64 (r : Int)]]) (by simp [results, Try.results57, go_sem, t0, t1]) rfl ?_
        refine ⟨_, by rw [HE.out, HV.out]; rfl, ⟨some ⟨q, 0, none⟩, c', ?_, ?_⟩, HB8.out, fun B _ hB => RefFrom.some_ (by omega)⟩
        · rw [HSS.out, List.length_set]
        · rw [HSS.out, List.length_set]; exact HO8.out
  · have q3 : hasBit x.l jn = false := by simpa using q3
    have hE := HE0.out
    rw [if_neg q1, if_pos (.inr q3)] at hE
    have HE := Lib.hid hE
    have HV : Hid (getV r L jn t = 0) := by show _ = _; rw [HV0.out, hE, if_neg (by decide)]
    have HSS : Hid (getS r L jn t = L) := by show _ = _; rw [HS0.out, hE, if_neg (by decide)]
    have hbi := HBI.out
    rw [q3] at hbi
    have HBI := Lib.hid hbi
    clear q1 q2 q3 hE hbi
    go_enter Try.func57, Try.ntmps57
    go_wp2_with fail
    rw [← HW2.out]
    generalize getW w (some ⟨b, off, none⟩) c r L.length x = w1 at *
    refine (HBI.out _).mono ?_
    rintro e w' ⟨rfl, rfl⟩
    go_wp2
    go_region
    all_goals
      have w2 : Hid (Lies (World.drew ((w1.setCell ⟨w.heap.size + 1, 0, none⟩ (.slice (some ⟨b, off, none⟩) L.length c)).setCell ⟨w.heap.size + 1, 1, none⟩ (.int .i64 (r : Int)))) (w.heap.size + 1) 36 #[.slice (some ⟨b, off, none⟩) L.length c, .int .i64 (r : Int)]) := HV1
      have q0 := (w2.out.cell 0).trans (show _ = some (Value.slice (some ⟨b, off, none⟩) L.length c) from rfl)
      have q1 := (w2.out.cell 1).trans (show _ = some (Value.int .i64 (r : Int)) from rfl)
      have hb2 : Below w.heap.size w (World.drew ((w1.setCell ⟨w.heap.size + 1, 0, none⟩ (.slice (some ⟨b, off, none⟩) L.length c)).setCell ⟨w.heap.size + 1, 1, none⟩ (.int .i64 (r : Int)))) := below_drewN HB1.out 1
      clear w2
      generalize (World.drew ((w1.setCell ⟨w.heap.size + 1, 0, none⟩ (.slice (some ⟨b, off, none⟩) L.length c)).setCell ⟨w.heap.size + 1, 1, none⟩ (.int .i64 (r : Int)))) = w3 at *
      go_wp2
      refine bodyPost_ret (v := .tuple #[.int .u64 0, .int .i64 11, .agg #[.slice (some ⟨b, off, none⟩) L.length c, .int .i64 (r : Int)]]) (by simp [results, Try.results57, go_sem, q0, q1]) rfl ?_
      exact ⟨_, by rw [HE.out, HV.out]; rfl, ⟨(some ⟨b, off, none⟩), c, by rw [HSS.out], by rw [HSS.out]; exact HSL.out.later hb2⟩, hb2, fun B hB _ => hB⟩
end Go.Proofs.Ytahojmioonpodaa
