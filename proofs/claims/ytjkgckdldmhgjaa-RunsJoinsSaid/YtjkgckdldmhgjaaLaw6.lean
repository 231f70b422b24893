import Derived.Test.YtjkgckdldmhgjaaLaw5
namespace Go.Proofs.Ytjkgckdldmhgjaa
open Go.RowKit
set_option linter.unusedVariables false
set_option linter.unusedSimpArgs false
theorem bytesU64 : Try.prog.bytesOf 34 = 8 := by kernel_rfl
set_option maxHeartbeats 4000000 in
set_option maxRecDepth 100000 in
theorem joins_walk (a : Option Addr) (len cap : Nat) (zs : List Int) (a2 : Option Addr) (len2 cap2 : Nat) (zs2 : List Int) (w : World) (h : ArgInts .u64 w a len cap zs) (h2 : ArgInts .u64 w a2 len2 cap2 zs2)
    (x0 : cap * Try.prog.bytesOf 34 ≤ reachBytes) (x1 : cap2 * Try.prog.bytesOf 34 ≤ reachBytes) :
    Calls Try.prog 8 #[.slice a len cap, .slice a2 len2 cap2] w fun e w' => e = .returned (.bool true) ∧ Below w.heap.size w w' := by
  obtain ⟨l, h0⟩ := argNats h
  obtain ⟨hn, hlc, hcm, hll, hrow, hM⟩ := id h0
  have H := Lib.hid h0
  have HM := Lib.hid hM
  have hHX := fun w' (hb : Below w.heap.size w w') k u (hu : (cells64 l)[k]? = some u) => hrow.get hb hu
  have HX := Lib.hid hHX
  have HN := Lib.hid hn
  clear h h0 hrow hM hn hHX
  obtain ⟨m, h0⟩ := argNats h2
  obtain ⟨hn, hlc2, hcm2, hll2, hrow, hM⟩ := id h0
  have H2 := Lib.hid h0
  have HM2 := Lib.hid hM
  have hHX := fun w' (hb : Below w.heap.size w w') k u (hu : (cells64 m)[k]? = some u) => hrow.get hb hu
  have HX2 := Lib.hid hHX
  have HN2 := Lib.hid hn
  clear h2 h0 hrow hM hn hHX
  subst hll hll2
  rw [bytesU64] at x0 x1
  unfold reachBytes at x0 x1
  have c0 : l.length ≤ 17592186044416 := by omega
  have c1 : m.length ≤ 17592186044416 := by omega
  unfold maxLen at hcm hcm2
  clear x0 x1
  by_cases hz : l.length = 0
  · have e0 : ((l.length : Int) == 0) = true := by rw [beq_iff_eq]; omega
    clear hz
    have hbel := Below.refl w.heap.size w
    go_enter Try.func8, Try.ntmps8
    go_wp2_with (go_at_call 9; refine (awake_any _).mono ?_; rintro e w1 ⟨rfl, hb⟩; have hbel := then_ hbel hb; clear hb)
    go_ret
    exact ⟨rfl, hbel⟩
  have e0 : ((l.length : Int) == 0) = false := by rw [beq_eq_false_iff_ne]; omega
  by_cases hz2 : m.length = 0
  · have e1 : ((m.length : Int) == 0) = true := by rw [beq_iff_eq]; omega
    clear hz hz2
    have hbel := Below.refl w.heap.size w
    go_enter Try.func8, Try.ntmps8
    go_wp2_with (go_at_call 9; refine (awake_any _).mono ?_; rintro e w1 ⟨rfl, hb⟩; have hbel := then_ hbel hb; clear hb)
    go_ret
    exact ⟨rfl, hbel⟩
  have e1 : ((m.length : Int) == 0) = false := by rw [beq_eq_false_iff_ne]; omega
  by_cases hs : 500 < l.length + m.length
  · have e2 : decide ((500 : Int) < (l.length : Int) + (m.length : Int)) = true := by simp; omega
    clear hz hz2
    have hbel := Below.refl w.heap.size w
    go_enter Try.func8, Try.ntmps8
    go_wp2_with (go_at_call 9; refine (awake_any _).mono ?_; rintro e w1 ⟨rfl, hb⟩; have hbel := then_ hbel hb; clear hb)
    go_ret
    exact ⟨rfl, hbel⟩
  have e2 : decide ((500 : Int) < (l.length : Int) + (m.length : Int)) = false := by simp; omega
  have hsum : l.length + m.length ≤ 500 := by omega
  have hp1 : 0 < l.length := by omega
  have hp2 : 0 < m.length := by omega
  obtain ⟨y, hy⟩ : ∃ y, l[l.length - 1]? = some y := ⟨_, List.getElem?_eq_getElem (by omega)⟩
  obtain ⟨x, hx⟩ : ∃ x, m[0]? = some x := ⟨_, List.getElem?_eq_getElem (by omega)⟩
  obtain ⟨d, c, hpa⟩ := packs_end hy
  obtain ⟨c2, rest, hpb⟩ := packs_first hx
  have hinA := packs_in l
  have hinB := packs_in m
  have hmemB := packs_mem m HM2.out
  have hin := packs_in (l ++ m)
  have hsame := fun (e : y = x) => joins_same l m d x c c2 rest (by rw [hpa, e]) hpb
  have hnew := fun (e : ¬ y = x) => joins_new l m (x, c2) rest hpb (by rw [hpa, lastIs_snoc]; simpa using e)
  have hml : ∀ n ∈ l ++ m, n < M64 := fun n hn => by
    rcases List.mem_append.1 hn with hn | hn
    · exact HM.out n hn
    · exact HM2.out n hn
  have HSAME := Lib.hid hsame
  have HNEW := Lib.hid hnew
  have HML := Lib.hid hml
  have HPA := Lib.hid hpa
  have HPB := Lib.hid hpb
  have HY := Lib.hid hy
  have HX0 := Lib.hid hx
  have hdl : d.length + 1 ≤ 500 := by
    have := hinA.1; rw [hpa] at this; simp at this; omega
  have hcl : c ≤ 500 := by
    have := hinA.2 (y, c) (by rw [hpa]; simp); simp only at this; omega
  have hc2l : c2 ≤ 500 := by
    have := hinB.2 (x, c2) (by rw [hpb]; simp); simp only at this; omega
  have hrl : rest.length + 1 ≤ 500 := by
    have := hinB.1; rw [hpb] at this; simp at this; omega
  clear hsame hnew hml hpa hpb hy hx hinA hinB hmemB hin hz hz2 hs
  have hbel := Below.refl w.heap.size w
  go_enter Try.func8, Try.ntmps8
  go_wp2_with fail
  refine (awake_any _).mono ?_
  rintro e wA ⟨rfl, hb⟩
  have hbel := then_ hbel hb
  clear hb
  go_wp2_with fail
  refine (refPack _ l wA (H.out.seq hbel) (by omega) HM.out).mono ?_
  rintro e w1 ⟨vp, rfl, ho1, hb1⟩
  have hbel1 := hbel.trans (hb1.mono hbel.size)
  rw [HPA.out] at ho1
  have HP := Lib.hid (SeqS.of_owns ho1)
  clear ho1 hb1 hbel
  go_wp2_with fail
  refine (refPack _ m w1 (H2.out.seq hbel1) (by omega) HM2.out).mono ?_
  rintro e w2 ⟨vq, rfl, ho2, hb2⟩
  have hbel := hbel1.trans (hb2.mono hbel1.size)
  rw [HPB.out] at ho2
  have HQ := Lib.hid (SeqS.of_owns ho2)
  have HP2 := Lib.hid (HP.out.later hb2)
  clear ho2 hb2 hbel1 HP
  have hoE := World.ownsRow_made (base := w2.heap.size) (e := 34) (size := 1) w2 #[] 0 (Nat.le_refl _) (by unfold maxLen; omega) (by simp)
  have hbE2 : Below w2.heap.size w2 (w2.alloc (.cells #[] 34)) := (Below.refl _ _).alloc (Nat.le_refl _) _
  have hbE := hbel.trans (hbE2.mono hbel.size)
  have hbEs := hbE2.size
  have HOE := Lib.hid hoE
  have hw2 := hbel.size
  clear hoE
  go_wp2_with (at_builtin; refine append_arg _ rfl (.tmp 34) (.tmp 35) 22 rfl w2.heap.size 34 _ _ Try.underlying22 Try.row22 rfl _ _ _ rfl HOE.out a l.length cap rfl (cells64 l) (cells64_length l) HN.out (HX.out _ hbE) (cells64_one l) (by unfold maxLen; omega) (by omega) hbEs ?_)
  intro v1 w3 ho3 hb3 _
  have hbel3 := hbE2.trans hb3
  have hb3s := hbel3.size
  have hbw3 := hbel.trans (hbel3.mono hbel.size)
  have HO3 := Lib.hid ho3
  clear ho3 hb3 HOE hbE hbE2 hbEs
  go_wp2_with (at_builtin; refine append_arg _ rfl (.tmp 36) (.tmp 37) 22 rfl w2.heap.size 34 _ _ Try.underlying22 Try.row22 rfl _ _ _ rfl HO3.out a2 m.length cap2 rfl (cells64 m) (cells64_length m) HN2.out (HX2.out _ hbw3) (cells64_one m) (by unfold maxLen; omega) (by omega) hb3s ?_)
  intro v2 w4 ho4 hb4 _
  have hbel4 := hbel3.trans hb4
  have hbw4 := hbel.trans (hbel4.mono hbel.size)
  have ha4 : SeqAt w4 v2 (cells64 (l ++ m)) := by
    have := SeqAt.of_owns ho4
    rw [show cells64 (l ++ m) = cells64 l ++ cells64 m by simp [cells64]]; simpa using this
  have HA4 := Lib.hid ha4
  have HP4 := Lib.hid (HP2.out.later hbel4)
  have HQ4 := Lib.hid (HQ.out.later hbel4)
  clear ho4 hb4 ha4 HO3 hbel3 hb3s hbw3 HP2 HQ hbel hbel4 hw2
  go_wp2_with fail
  refine (runsPack v2 (l ++ m) w4 HA4.out (by simp; omega) HML.out).mono ?_
  rintro e w5 ⟨vall, rfl, ho5, hb5⟩
  have hbel5 := hbw4.trans (hb5.mono hbw4.size)
  have HAL := Lib.hid (SeqS.of_owns ho5)
  have HP5 := Lib.hid (HP4.out.later hb5)
  have HQ5 := Lib.hid (HQ4.out.later hb5)
  clear ho5 hb5 HA4 HP4 HQ4 hbw4
  have hdl2 : (d ++ [(y, c)]).length = d.length + 1 := by simp
  rw [hdl2] at HP5
  clear hdl2
  obtain ⟨A6, cp6, hv6, hc61, hc62, _⟩ := HP5.out.form
  unfold maxLen at hc62
  rw [hv6] at HP5
  rw [hv6]
  clear hv6
  have hoE := World.ownsRow_made (base := w5.heap.size) (e := 37) (size := 2) w5 #[] 0 (Nat.le_refl _) (by unfold maxLen; omega) (by simp)
  have hbE5 : Below w5.heap.size w5 (w5.alloc (.cells #[] 37)) := (Below.refl _ _).alloc (Nat.le_refl _) _
  have hbEs := hbE5.size
  have HOE := Lib.hid hoE
  have hsE := HP5.out.later hbE5
  have HSE := Lib.hid hsE
  clear hoE hsE
  go_wp2_with (at_builtin; refine append_argS _ 2 rfl (.tmp 40) (.tmp 41) 30 rfl w5.heap.size 37 _ 16 Try.underlying30 Try.infoRun4 rfl (by omega) _ _ _ rfl HOE.out A6 (d.length + 1) cp6 rfl (cells2 (d ++ [(y, c)])) HSE.out (cells2_one' _) (by unfold maxLen; omega) (by omega) hbEs ?_)
  intro v6 w6 ho6 hb6 _
  have hbel6 := hbE5.trans hb6
  have hbw6 := hbel5.trans (hbel6.mono hbel5.size)
  have ho6' : w6.ownsRow w5.heap.size 37 2 v6 (d.length + 1) (cells2 (d ++ [(y, c)])) := by simpa using ho6
  have hll : (((x, c2) :: rest : List (Nat × Nat))).length = rest.length + 1 := rfl
  have hq5 := HQ5.out
  rw [hll] at hq5
  obtain ⟨A7, cp7, hv7, hc71, hc72, _⟩ := hq5.form
  unfold maxLen at hc72
  rw [hv7] at hq5
  rw [hv7]
  obtain ⟨g6, cp8, hv8, hg8, hg9, hc81, hc82⟩ := owns_openS ho6' (by omega)
  unfold maxLen at hc82
  rw [hv8] at ho6'
  rw [hv8]
  obtain ⟨q1, q2, q3, q4⟩ := own_last ho6' rfl
  obtain ⟨bq, oq, rfl, q5w, q6w⟩ := seq2_at hq5 (k := 0) (p := (x, c2)) rfl (by omega)
  simp only [Nat.zero_mul, Nat.add_zero] at q5w q6w
  have q5 := cell_later q5w hbel6
  have q6 := cell_later q6w hbel6
  have hbqw := World.block_lt_of_cell? w5 _ q5w
  simp only at hbqw
  have hbg : bq ≠ g6 := by omega
  have hsa := H.out.seq hbw6
  have hsb := H2.out.seq hbw6
  obtain ⟨Aa, ca, hva, _, _, hcella⟩ := hsa
  obtain ⟨Ab, cb, hvb, _, _, hcellb⟩ := hsb
  rw [cells64_length] at hva hvb
  simp only [Value.slice.injEq, true_and] at hva hvb
  obtain ⟨rfl, rfl⟩ := hva
  obtain ⟨rfl, rfl⟩ := hvb
  obtain ⟨ba, oa, rfl, q7⟩ := hcella _ _ (cells64_get HY.out)
  obtain ⟨bb, ob, rfl, q8⟩ := hcellb _ _ (cells64_get HX0.out)
  rw [Nat.add_zero] at q8
  obtain ⟨L1, hL1⟩ : ∃ L1, L1 = l.length - 1 := ⟨_, rfl⟩
  rw [← hL1] at q7
  have hLi : (l.length : Int) - 1 = (L1 : Int) := by omega
  have hLl : (L1 : Int) < (l.length : Int) := by omega
  have hb0i : (0 : Int) < (m.length : Int) := by omega
  have HO6 := Lib.hid ho6'
  have HQ6 := Lib.hid (hq5.later hbel6)
  have HQW := Lib.hid hq5
  clear ho6 hb6 ho6' hq5 q5w q6w hL1 hcella hcellb HQ5 HOE HSE hbE5 hbEs hv7 hv8 hll HY HX0 HX HX2 HN HN2
  by_cases hyx : y = x
  · have e5 : ((y : Int) == (x : Int)) = true := by simp [hyx]
    have hall := HSAME.out hyx
    have hHLS : ∀ v' w', Below w5.heap.size w5 w' → SeqS w' 2 v' (d.length + 1 + rest.length) (cells2 (d ++ [(y, c + c2)]) ++ cells2 rest) → Calls Try.prog 12 #[vall, v'] w' fun e w2 => e = .returned (.bool true) ∧ ∃ n, w2 = w'.drewN n := fun v' w' hb hs => by
      have := lawSame vall v' _ (d ++ [(y, c + c2)] ++ rest) w' (HAL.out.later hb) (by rw [cells2_append, List.length_append, show (d ++ [(y, c + c2)]).length = d.length + 1 by simp]; exact hs)
      rwa [hall, hyx, decide_eq_true rfl] at this
    have HLS := Lib.hid hHLS
    have HQ4 := Lib.hid (q4 (c + c2))
    have hcs : (c : Int) + (c2 : Int) ≤ 1000 := by omega
    clear hyx hall hHLS HAL HSAME HNEW q4 HPA HPB
    go_wp2
    go_quiet (fail)
    have q1d : (w6.drewN nq).cell? _ = _ := q1
    have q2d : (w6.drewN nq).cell? _ = _ := q2
    have q3d : (w6.drewN nq).frozen? _ = _ := q3
    have q6d : (w6.drewN nq).cell? _ = _ := q6
    have hb57 := below_drewN hbel6 nq
    have HQ4d : Hid (World.ownsRow ((w6.drewN nq).setCell ⟨g6, d.length * 2 + 1, none⟩ (.int .u64 ((c + c2 : Nat) : Int))) w5.heap.size 37 2 (.slice (some ⟨g6, 0, none⟩) (d.length + 1) cp8) (d.length + 1) (cells2 (d ++ [(y, c + c2)]))) := HQ4.out
    clear q1 q2 q3 q5 q6 q7 q8 HO6 HQ6 hbw6 hbel6 HQ4
    generalize w6.drewN nq = w7 at *
    go_wp2_with fail
    go_region
    have hb58 := (hb57.setCell (p := ⟨g6, d.length * 2 + 1, none⟩) hg8 (.int .u64 ((c : Int) + (c2 : Int)))).drew
    have HO7 : Hid (World.ownsRow ((w7.setCell ⟨g6, d.length * 2 + 1, none⟩ (.int .u64 ((c : Int) + (c2 : Int)))).drew) w5.heap.size 37 2 (.slice (some ⟨g6, 0, none⟩) (d.length + 1) cp8) (d.length + 1) (cells2 (d ++ [(y, c + c2)]))) := HQ4d.out
    have hq7 := HQW.out.later hb58
    have hb7s := hb58.size
    clear q1d q2d q3d q6d hb57 HQ4d HQW
    generalize (w7.setCell ⟨g6, d.length * 2 + 1, none⟩ (.int .u64 ((c : Int) + (c2 : Int)))).drew = w8 at *
    have hb57 := hb58
    clear hb58
    by_cases hcp : cp7 = 1
    · subst hcp
      have hr0 : rest = [] := List.length_eq_zero_iff.1 (by omega)
      subst hr0
      have HQ7 : Hid (SeqS w8 2 (.slice (some ⟨bq, oq, none⟩) 0 0) 0 (cells2 [])) := SeqS.none2
      clear hq7
      go_wp2_with (at_builtin; refine append_argS _ 2 rfl (.tmp 70) (.tmp 71) 30 rfl w5.heap.size 37 _ 16 Try.underlying30 Try.infoRun4 rfl (by omega) _ _ _ rfl HO7.out _ _ _ rfl (cells2 []) HQ7.out (cells2_one' _) (by unfold maxLen; omega) (by omega) hb7s ?_)
      intro v8 w8 ho8 hb8 _
      have hb58 := hb57.trans hb8
      have hb8 := hbel5.trans (hb58.mono hbel5.size)
      have hsq8 := SeqS.of_owns ho8
      have hss := HLS.out v8 w8 hb58 (by simpa [cells2_append] using hsq8)
      have HSS := Lib.hid hss
      clear ho8 hb58 hsq8 hss HO7 HQ7 HLS
      go_wp2_with fail
      refine HSS.out.mono ?_
      rintro e w9 ⟨rfl, nd, hw9⟩
      have hb9 : Below w.heap.size w w9 := by rw [hw9]; exact below_drewN hb8 _
      clear hw9
      go_wp2
      go_ret
      exact ⟨rfl, hb9⟩
    · have hcpi : (1 : Int) < (cp7 : Int) := by omega
      have HQ7 := Lib.hid hq7.rest2
      have hcp2 : ¬ cp7 = 1 := hcp
      clear hq7
      go_wp2_with (at_builtin; refine append_argS _ 2 rfl (.tmp 70) (.tmp 71) 30 rfl w5.heap.size 37 _ 16 Try.underlying30 Try.infoRun4 rfl (by omega) _ _ _ rfl HO7.out _ _ _ rfl (cells2 rest) HQ7.out (cells2_one' _) (by unfold maxLen; omega) (by omega) hb7s ?_)
      intro v8 w8 ho8 hb8 _
      have hb58 := hb57.trans hb8
      have hb8 := hbel5.trans (hb58.mono hbel5.size)
      have hsq8 := SeqS.of_owns ho8
      have hss := HLS.out v8 w8 hb58 (by simpa [cells2_append] using hsq8)
      have HSS := Lib.hid hss
      clear ho8 hb58 hsq8 hss HO7 HQ7 HLS
      go_wp2_with fail
      refine HSS.out.mono ?_
      rintro e w9 ⟨rfl, nd, hw9⟩
      have hb9 : Below w.heap.size w w9 := by rw [hw9]; exact below_drewN hb8 _
      clear hw9
      go_wp2
      go_ret
      exact ⟨rfl, hb9⟩
  · have e5 : ((y : Int) == (x : Int)) = false := by simp; omega
    have hall := HNEW.out hyx
    rw [HPA.out, HPB.out] at hall
    have hHLS : ∀ v' w', Below w5.heap.size w5 w' → SeqS w' 2 v' (d.length + 1 + (rest.length + 1)) (cells2 (d ++ [(y, c)]) ++ cells2 ((x, c2) :: rest)) → Calls Try.prog 12 #[vall, v'] w' fun e w2 => e = .returned (.bool true) ∧ ∃ n, w2 = w'.drewN n := fun v' w' hb hs => by
      have := lawSame vall v' _ (d ++ [(y, c)] ++ (x, c2) :: rest) w' (HAL.out.later hb) (by rw [cells2_append, List.length_append, show (d ++ [(y, c)]).length = d.length + 1 by simp]; exact hs)
      rwa [hall, decide_eq_true rfl] at this
    have HLS := Lib.hid hHLS
    clear hyx hall hHLS HAL HSAME HNEW
    go_wp2
    go_quiet (fail)
    have hb57 := below_drewN hbel6 nq
    have HO7 : Hid ((w6.drewN nq).ownsRow w5.heap.size 37 2 (.slice (some ⟨g6, 0, none⟩) (d.length + 1) cp8) (d.length + 1) (cells2 (d ++ [(y, c)]))) := HO6.out
    have HQ7 : Hid (SeqS (w6.drewN nq) 2 (.slice (some ⟨bq, oq, none⟩) (rest.length + 1) cp7) (rest.length + 1) (cells2 ((x, c2) :: rest))) := HQ6.out
    have hb7s : w5.heap.size ≤ (w6.drewN nq).heap.size := hbel6.size
    clear q1 q2 q3 q4 q5 q6 q7 q8 HO6 HQ6 hbw6 hbel6
    generalize w6.drewN nq = w7 at *
    go_wp2_with (at_builtin; refine append_argS _ 2 rfl (.tmp 70) (.tmp 71) 30 rfl w5.heap.size 37 _ 16 Try.underlying30 Try.infoRun4 rfl (by omega) _ _ _ rfl HO7.out _ (rest.length + 1) cp7 rfl (cells2 ((x, c2) :: rest)) HQ7.out (cells2_one' _) (by unfold maxLen; omega) (by omega) hb7s ?_)
    intro v8 w8 ho8 hb8 _
    have hb58 := hb57.trans hb8
    have hbw8 := hbel5.trans (hb58.mono hbel5.size)
    have HSS := Lib.hid (HLS.out v8 w8 hb58 (SeqS.of_owns ho8))
    clear ho8 hb8 hb58 HO7 HQ7 HLS
    go_wp2_with fail
    refine HSS.out.mono ?_
    rintro e w9 ⟨rfl, nd, hw9⟩
    have hb9 : Below w.heap.size w w9 := by rw [hw9]; exact below_drewN hbw8 _
    clear hw9
    go_wp2
    go_ret
    exact ⟨rfl, hb9⟩
end Go.Proofs.Ytjkgckdldmhgjaa
