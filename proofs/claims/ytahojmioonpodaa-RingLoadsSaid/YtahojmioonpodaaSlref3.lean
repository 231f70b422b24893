import Derived.Test.YtahojmioonpodaaSlref2
import Derived.BigQuiet
namespace Go.Proofs.Ytahojmioonpodaa
open Go.RowKit
set_option linter.unusedVariables false
set_option linter.unusedSimpArgs false
/-- The world with the call's own variables: the places, the result. -/
def putW (w : World) (A : Option Addr) (c r n : Nat) : World :=
  (w.alloc (.cells #[.slice A n c, .int .i64 (r : Int)] 36)).alloc (.cells #[.slice none 0 0, .int .i64 0] 36)
theorem putW_facts (w : World) (A : Option Addr) (c r n : Nat) : Below w.heap.size w (putW w A c r n) ∧ (putW w A c r n).heap.size = w.heap.size + 1 + 1 ∧
    Lies (putW w A c r n) w.heap.size 36 #[.slice A n c, .int .i64 (r : Int)] ∧
    Lies (putW w A c r n) (w.heap.size + 1) 36 #[.slice none 0 0, .int .i64 0] := by
  have z1 : (w.alloc (.cells #[.slice A n c, .int .i64 (r : Int)] 36)).heap.size = w.heap.size + 1 := by simp
  have l2 := Lies.made (w.alloc (.cells #[.slice A n c, .int .i64 (r : Int)] 36)) 36 #[.slice none 0 0, .int .i64 0]
  rw [z1] at l2
  exact ⟨((Below.refl _ _).alloc (Nat.le_refl _) _).alloc (by simp) _, by unfold putW; simp, (Lies.made w _ _).alloc _, l2⟩
/-- 'with', told with what it leaves of the caller's result variable. -/
theorem with_kept (A : Option Addr) (c r i g : Nat) (L : List Sl) (x : Sl) (w : World) (h : SeqS w 3 (.slice A L.length c) L.length (rowsOf slF L)) (hi : i < L.length) (hl : L.length ≤ 64) (hg : Lies w g 36 #[.slice none 0 0, .int .i64 0]) :
    Calls Try.prog 68 #[.agg #[.slice A L.length c, .int .i64 (r : Int)], .int .i64 i, .agg #[.int .u64 (x.s : Int), .int .u64 (x.v : Int), .int .i64 x.l]] w fun e w' =>
      ∃ q c', e = .returned (.agg #[.slice (some ⟨q, 0, none⟩) L.length c', .int .i64 (r : Int)]) ∧ w'.cell? ⟨g, 0, none⟩ = some (.slice none 0 0) ∧ w'.cell? ⟨g, 1, none⟩ = some (.int .i64 0) ∧ w'.frozen? ⟨g, 0, none⟩ = false ∧ w'.frozen? ⟨g, 1, none⟩ = false ∧
        Hid (w'.ownsRow w.heap.size 78 3 (.slice (some ⟨q, 0, none⟩) L.length c') L.length (rowsOf slF (L.set i x))) ∧ Hid (Below w.heap.size w w') ∧ Hid (Lies w' g 36 #[.slice none 0 0, .int .i64 0]) :=
  (ref12With _ r i L x w ⟨A, c, rfl, h⟩ hi hl).mono fun e w' ⟨q, c', he, ho, hb⟩ => by
    have hl := hg.below hb hg.lt
    exact ⟨q, c', he, hl.cell 0, hl.cell 1, hl.free 0, hl.free 1, ho, hb, hl⟩
theorem slice_put {w : World} {g : Nat} {t : TypeId} {a b : Value} (A : Value) (R : Value) (h : Lies w g t #[a, b]) : Lies ((w.setCell ⟨g, 0, none⟩ A).setCell ⟨g, 1, none⟩ R) g t #[A, R] := (h.put 0 A).put 1 R
theorem SeqS.keptT {S : Nat → Prop} {w w' : World} {sz n : Nat} {v : Value} {xs : List Value} (h : SeqS w sz v n xs) (k : Kept S w w') (hs : ∀ b c o, v = .slice (some ⟨b, o, none⟩) n c → ¬ S b) : SeqS w' sz v n xs := by
  obtain ⟨h1, A, c, rfl, h2, h3, h0, h4⟩ := h
  refine ⟨h1, A, c, rfl, h2, h3, h0, fun k' u hu => ?_⟩
  obtain ⟨b, off, rfl, hc⟩ := h4 k' u hu
  refine ⟨b, off, rfl, ?_⟩
  have hlt := World.block_lt_of_cell? w _ hc
  unfold World.cell? at hc ⊢
  rw [k.at_ b hlt (hs b c off rfl)]; exact hc
set_option maxHeartbeats 4000000 in
set_option maxRecDepth 100000 in
theorem ref12Put (v0 : Value) (r t v : Nat) (L : List Sl) (w : World) (h : RefSl w v0 r L) (hl : SlOk r L) (ht : t ≤ 18446744073709551615) (hv : v ≤ 18446744073709551615) :
    Calls Try.prog 56 #[v0, .int .u64 t, .int .u64 v] w fun e w' => ∃ v', e = .returned (.tuple #[.int .i64 (putE L t : Nat), v']) ∧ RefSl w' v' r (putS r L t v) ∧ Below w.heap.size w w' ∧ ∀ B, RefFrom B v0 → B ≤ w.heap.size → RefFrom B v' := by
  obtain ⟨A, c, rfl, hs⟩ := h
  obtain ⟨k1, k2, k3, k4⟩ := putW_facts w A c r L.length
  have c0 := k3.cell 0
  have c1 := k3.cell 1
  have d0 := k4.cell 0
  have d1 := k4.cell 1
  have f0 := k4.free 0
  have f1 := k4.free 1
  simp at c0 c1 d0 d1
  have hv1 := slice_put (.slice A L.length c) (.int .i64 (r : Int)) k4
  have hb1 := (k1.setCell (p := ⟨w.heap.size + 1, 0, none⟩) (show w.heap.size ≤ w.heap.size + 1 by omega) (.slice A L.length c)).setCell (p := ⟨w.heap.size + 1, 1, none⟩) (show w.heap.size ≤ w.heap.size + 1 by omega) (.int .i64 (r : Int))
  have HV1 := Lib.hid hv1
  have HB1 := Lib.hid hb1
  have HS := Lib.hid hs
  have HW : Hid (putW w A c r L.length = (w.alloc (.cells #[.slice A L.length c, .int .i64 (r : Int)] 36)).alloc (.cells #[.slice none 0 0, .int .i64 0] 36)) := rfl
  clear hv1 hb1
  by_cases hb : 4611686018427387904 ≤ t
  · have e0 : decide ((4611686018427387904 : Int) ≤ (t : Int)) = true := by rw [decide_eq_true_eq]; omega
    have hE : putE L t = 1 := if_pos (by omega)
    have hS : putS r L t v = L := by unfold putS; rw [hE, if_neg (by decide)]
    have HE := Lib.hid hE
    have HSS := Lib.hid hS
    clear hE hS hb k1 k2 k3 k4 hs
    go_enter Try.func56, Try.ntmps56
    go_wp2
    rw [← HW.out]
    generalize putW w A c r L.length = w1 at *
    go_region
    all_goals
      have w2 : Hid (Lies (World.drew ((w1.setCell ⟨w.heap.size + 1, 0, none⟩ (.slice A L.length c)).setCell ⟨w.heap.size + 1, 1, none⟩ (.int .i64 (r : Int)))) (w.heap.size + 1) 36 #[.slice A L.length c, .int .i64 (r : Int)]) := HV1
      have q0 := (w2.out.cell 0).trans (show _ = some (Value.slice A L.length c) from rfl)
      have q1 := (w2.out.cell 1).trans (show _ = some (Value.int .i64 (r : Int)) from rfl)
      have hb2 : Below w.heap.size w (World.drew ((w1.setCell ⟨w.heap.size + 1, 0, none⟩ (.slice A L.length c)).setCell ⟨w.heap.size + 1, 1, none⟩ (.int .i64 (r : Int)))) := below_drewN HB1.out 1
      clear w2
      generalize (World.drew ((w1.setCell ⟨w.heap.size + 1, 0, none⟩ (.slice A L.length c)).setCell ⟨w.heap.size + 1, 1, none⟩ (.int .i64 (r : Int)))) = w3 at *
      go_wp2
      refine bodyPost_ret (v := .tuple #[.int .i64 1, .agg #[.slice A L.length c, .int .i64 (r : Int)]]) (by simp [results, Try.results56, go_sem, q0, q1]) rfl ?_
      exact ⟨_, by rw [HE.out]; rfl, ⟨A, c, by rw [HSS.out], by rw [HSS.out]; exact HS.out.later hb2⟩, hb2, fun B hB _ => hB⟩
  have e0 : decide ((4611686018427387904 : Int) ≤ (t : Int)) = false := by rw [decide_eq_false_iff_not]; omega
  have hx := slX_get hl.1 t
  obtain ⟨b, off, rfl, hbl, gx⟩ := SeqS.at_ slF_length (by decide) hs hx
  have x0 := gx 0 _ (by decide) rfl
  have x1 := gx 1 _ (by decide) rfl
  have x2 := gx 2 _ (by decide) rfl
  rw [Nat.add_zero] at x0
  obtain ⟨s0, s1, s2, s3⟩ := slX_ok hl t
  have hi : t % L.length < L.length := Nat.mod_lt _ hl.1
  have hE : putE L t = if (slX L t).s < 2 * t then 8 else if 2 * t < (slX L t).s then 11 else 0 := by unfold putE; rw [if_neg hb]
  have hS : putS r L t v = if putE L t = 0 then L.set (t % L.length) ⟨2 * t + 1, v, everyN r⟩ else L := rfl
  have hl1 := hl.1
  have hl2 := hl.2.1
  have hr := hl.2.2.2.1
  have hmw : IntKind.u64.wrap (L.length : Int) = (L.length : Int) := by rw [IntKind.wrap_u64]; omega
  have hmt : Int.tmod (t : Int) (L.length : Int) = ((t % L.length : Nat) : Int) := rfl
  have hwi := with_kept (some ⟨b, off, none⟩) c r (t % L.length) (w.heap.size + 1) L ⟨2 * t + 1, v, everyN r⟩
  have hcast : ((2 * t + 1 : Nat) : Int) = 2 * (t : Int) + 1 := by omega
  simp only [hcast] at hwi
  have hey := everyN_pos hr
  have HSK := Lib.hid (fun w' (hb : Below w.heap.size w w') => hs.later hb)
  have HSL := Lib.hid hs
  have hi2 : ((t % L.length : Nat) : Int) < (L.length : Int) := by omega
  have K4 := Lib.hid k4
  have K1 := Lib.hid k1
  have HE := Lib.hid hE
  have HSS0 := Lib.hid hS
  have HWI := Lib.hid hwi
  have HAL := Lib.hid (fun w => ref12All r w hr)
  have ht2 : t ≤ 4611686018427387903 := by omega
  clear hE hS hb k1 k2 k3 k4 hs gx hx hwi hcast
  generalize t % L.length = i at *
  generalize slX L t = x at *
  by_cases q1 : x.s < 2 * t
  · have e1 : decide ((x.s : Int) < 2 * (t : Int)) = true := by rw [decide_eq_true_eq]; omega
    have hE := HE.out
    rw [if_pos q1] at hE
    have hS := HSS0.out
    rw [hE, if_neg (by decide)] at hS
    have HE := Lib.hid hE
    have HSS := Lib.hid hS
    clear q1 HSS0 hE hS
    go_enter Try.func56, Try.ntmps56
    go_wp2
    rw [← HW.out]
    generalize putW w (some ⟨b, off, none⟩) c r L.length = w1 at *
    go_region
    all_goals
      have HS := HSL
      have w2 : Hid (Lies (World.drew ((w1.setCell ⟨w.heap.size + 1, 0, none⟩ (.slice (some ⟨b, off, none⟩) L.length c)).setCell ⟨w.heap.size + 1, 1, none⟩ (.int .i64 (r : Int)))) (w.heap.size + 1) 36 #[.slice (some ⟨b, off, none⟩) L.length c, .int .i64 (r : Int)]) := HV1
      have q0 := (w2.out.cell 0).trans (show _ = some (Value.slice (some ⟨b, off, none⟩) L.length c) from rfl)
      have q1 := (w2.out.cell 1).trans (show _ = some (Value.int .i64 (r : Int)) from rfl)
      have hb2 : Below w.heap.size w (World.drew ((w1.setCell ⟨w.heap.size + 1, 0, none⟩ (.slice (some ⟨b, off, none⟩) L.length c)).setCell ⟨w.heap.size + 1, 1, none⟩ (.int .i64 (r : Int)))) := below_drewN HB1.out 1
      clear w2
      generalize (World.drew ((w1.setCell ⟨w.heap.size + 1, 0, none⟩ (.slice (some ⟨b, off, none⟩) L.length c)).setCell ⟨w.heap.size + 1, 1, none⟩ (.int .i64 (r : Int)))) = w3 at *
      go_wp2
      refine bodyPost_ret (v := .tuple #[.int .i64 8, .agg #[.slice (some ⟨b, off, none⟩) L.length c, .int .i64 (r : Int)]]) (by simp [results, Try.results56, go_sem, q0, q1]) rfl ?_
      exact ⟨_, by rw [HE.out]; rfl, ⟨(some ⟨b, off, none⟩), c, by rw [HSS.out], by rw [HSS.out]; exact HS.out.later hb2⟩, hb2, fun B hB _ => hB⟩
  have e1 : decide ((x.s : Int) < 2 * (t : Int)) = false := by rw [decide_eq_false_iff_not]; omega
  have hE := HE.out
  rw [if_neg q1] at hE
  by_cases q2 : 2 * t < x.s
  · have e2 : decide (2 * (t : Int) < (x.s : Int)) = true := by rw [decide_eq_true_eq]; omega
    rw [if_pos q2] at hE
    have hS := HSS0.out
    rw [hE, if_neg (by decide)] at hS
    have HE := Lib.hid hE
    have HSS := Lib.hid hS
    clear q1 q2 HSS0 hE hS
    go_enter Try.func56, Try.ntmps56
    go_wp2
    rw [← HW.out]
    generalize putW w (some ⟨b, off, none⟩) c r L.length = w1 at *
    go_region
    all_goals
      have HS := HSL
      have w2 : Hid (Lies (World.drew ((w1.setCell ⟨w.heap.size + 1, 0, none⟩ (.slice (some ⟨b, off, none⟩) L.length c)).setCell ⟨w.heap.size + 1, 1, none⟩ (.int .i64 (r : Int)))) (w.heap.size + 1) 36 #[.slice (some ⟨b, off, none⟩) L.length c, .int .i64 (r : Int)]) := HV1
      have q0 := (w2.out.cell 0).trans (show _ = some (Value.slice (some ⟨b, off, none⟩) L.length c) from rfl)
      have q1 := (w2.out.cell 1).trans (show _ = some (Value.int .i64 (r : Int)) from rfl)
      have hb2 : Below w.heap.size w (World.drew ((w1.setCell ⟨w.heap.size + 1, 0, none⟩ (.slice (some ⟨b, off, none⟩) L.length c)).setCell ⟨w.heap.size + 1, 1, none⟩ (.int .i64 (r : Int)))) := below_drewN HB1.out 1
      clear w2
      generalize (World.drew ((w1.setCell ⟨w.heap.size + 1, 0, none⟩ (.slice (some ⟨b, off, none⟩) L.length c)).setCell ⟨w.heap.size + 1, 1, none⟩ (.int .i64 (r : Int)))) = w3 at *
      go_wp2
      refine bodyPost_ret (v := .tuple #[.int .i64 11, .agg #[.slice (some ⟨b, off, none⟩) L.length c, .int .i64 (r : Int)]]) (by simp [results, Try.results56, go_sem, q0, q1]) rfl ?_
      exact ⟨_, by rw [HE.out]; rfl, ⟨(some ⟨b, off, none⟩), c, by rw [HSS.out], by rw [HSS.out]; exact HS.out.later hb2⟩, hb2, fun B hB _ => hB⟩
  have e2 : decide (2 * (t : Int) < (x.s : Int)) = false := by rw [decide_eq_false_iff_not]; omega
  rw [if_neg q2] at hE
  have hS := HSS0.out
  rw [hE, if_pos rfl] at hS
  have HE := Lib.hid hE
  have HSS := Lib.hid hS
  clear q1 q2 HSS0 hE hS
  have HSK1 := Lib.hid (fun n => HSK.out ((putW w (some ⟨b, off, none⟩) c r L.length).drewN n) (below_drewN K1.out n))
  go_enter Try.func56, Try.ntmps56
  go_wp2
  rw [← HW.out]
  generalize putW w (some ⟨b, off, none⟩) c r L.length = w1 at *
  have HWI1 := Lib.hid (HWI.out w1.drew (HSK1.out 1) hi hl2 K4.out)
  clear HWI x0 x1 x2 HSK1
  have u1 : IntKind.u64.wrap (2 * (t : Int)) = 2 * (t : Int) := by rw [IntKind.wrap_u64]; omega
  have u2 : IntKind.u64.wrap (2 * (t : Int) + 1) = 2 * (t : Int) + 1 := by rw [IntKind.wrap_u64]; omega
  go_region_with (first | (go_at_call 62; refine (HAL.out _).mono ?_; rintro e w' ⟨rfl, rfl⟩) | (go_at_call 68; refine HWI1.out.mono ?_; rintro e w7 ⟨q, c', rfl, g0, g1, g2, g3, g4, g5, g6⟩))
  all_goals
    have v8 := slice_put (.slice (some ⟨q, 0, none⟩) L.length c') (.int .i64 (r : Int)) g6.out
    have hgl : w.heap.size + 1 < w1.heap.size := K4.out.lt
    have ho := owns_kept (owns_kept g4.out (Kept.put w7 (w.heap.size + 1) 0 (.slice (some ⟨q, 0, none⟩) L.length c')) (fun r' cur hr hl (e : r' = w.heap.size + 1) => by
      have h5 := (g4.out.lt r' hr).1
      have h6 : w1.drew.heap.size = w1.heap.size := rfl
      omega)) (Kept.put _ (w.heap.size + 1) 1 (.int .i64 (r : Int))) (fun r' cur hr hl (e : r' = w.heap.size + 1) => by
      have h5 := (g4.out.lt r' hr).1
      have h6 : w1.drew.heap.size = w1.heap.size := rfl
      omega)
    have hb8 := (((below_drewN K1.out 1).trans (g5.out.mono K1.out.size)).setCell (p := ⟨w.heap.size + 1, 0, none⟩) (show w.heap.size ≤ w.heap.size + 1 by omega) (.slice (some ⟨q, 0, none⟩) L.length c')).setCell (p := ⟨w.heap.size + 1, 1, none⟩) (show w.heap.size ≤ w.heap.size + 1 by omega) (.int .i64 (r : Int))
    have HO8 := Lib.hid (SeqS.of_owns ho)
    have HB8 := Lib.hid hb8
    have hq9 := (ho.lt q rfl).1
    have hw9 : w.heap.size ≤ w1.drew.heap.size := K1.out.size
    have q0 := (v8.cell 0).trans (show _ = some (Value.slice (some ⟨q, 0, none⟩) L.length c') from rfl)
    have q1 := (v8.cell 1).trans (show _ = some (Value.int .i64 (r : Int)) from rfl)
    clear v8 ho hb8 g0 g1 g2 g3 g4 g5 g6
    generalize (w7.setCell ⟨w.heap.size + 1, 0, none⟩ (.slice (some ⟨q, 0, none⟩) L.length c')).setCell ⟨w.heap.size + 1, 1, none⟩ (.int .i64 (r : Int)) = w8 at *
    go_wp2
    refine bodyPost_ret (v := .tuple #[.int .i64 0, .agg #[.slice (some ⟨q, 0, none⟩) L.length c', .int .i64 (r : Int)]]) (by simp [results, Try.results56, go_sem, q0, q1]) rfl ?_
    refine ⟨_, by rw [HE.out]; rfl, ⟨some ⟨q, 0, none⟩, c', ?_, ?_⟩, HB8.out, fun B _ hB => RefFrom.some_ (by omega)⟩
    · rw [HSS.out, List.length_set]
    · rw [HSS.out, List.length_set]; exact HO8.out
end Go.Proofs.Ytahojmioonpodaa
