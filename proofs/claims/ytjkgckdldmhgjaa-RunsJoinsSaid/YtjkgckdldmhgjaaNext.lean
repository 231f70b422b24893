import Derived.Test.YtjkgckdldmhgjaaRefprint4
import Derived.Test.YtjkgckdldmhgjaaRdmore
import Derived.Test.YtjkgckdldmhgjaaRefread
namespace Go.Proofs.Ytjkgckdldmhgjaa
open Go.RowKit
set_option linter.unusedVariables false
set_option linter.unusedSimpArgs false
/-- The next run behind others: its number, one less than how often, what is wrong, and the place behind. -/
def nextR (s : ByteArray) (p : Nat) (bef : List (Nat × Nat)) (room : Nat) : (Nat × Nat) × Nat × Nat :=
  if (rd (restOf s p)).2.1 ≠ 0 then ((0, 0), (rd (restOf s p)).2.1, p + (rd (restOf s p)).2.2)
  else if (rd (restOf s (p + (rd (restOf s p)).2.2))).2.1 ≠ 0 then ((0, 0), (rd (restOf s (p + (rd (restOf s p)).2.2))).2.1, p + (rd (restOf s p)).2.2 + (rd (restOf s (p + (rd (restOf s p)).2.2))).2.2)
  else (((rd (restOf s p)).1, (rd (restOf s (p + (rd (restOf s p)).2.2))).1 + 1),
    if lastIs bef (rd (restOf s p)).1 = true then 3 else if room ≤ (rd (restOf s (p + (rd (restOf s p)).2.2))).1 then 4 else 0, p + (rd (restOf s p)).2.2 + (rd (restOf s (p + (rd (restOf s p)).2.2))).2.2)
theorem info36 : (Try.prog.info? 36).map (·.size) = some 2 := by kernel_rfl
set_option maxHeartbeats 2000000 in
set_option maxRecDepth 100000 in
theorem runsNext (g : Nat) (s : ByteArray) (i : Nat) (v : Value) (bef : List (Nat × Nat)) (room B : Nat) (w : World) (h : RdAt w g s i) (ho : w.ownsRow B 36 2 v bef.length (cells2 bef)) (hroom : room ≤ 9223372036854775807) :
    Calls Try.prog 28 #[.pointer (some ⟨g, 0, none⟩), v, .int .u64 room] w fun e w' => ∃ x c : Nat,
    e = .returned (.tuple #[.agg #[.int .u64 x, .int .u64 c], .int .i64 (nextR s i bef room).2.1]) ∧ ((nextR s i bef room).2.1 = 0 → (nextR s i bef room).1 = (x, c)) ∧ RdAt w' g s (nextR s i bef room).2.2 ∧ Kept (oneRow g) w w' := by
  have hN : nextR s i bef room = nextR s i bef room := rfl
  conv at hN => rhs; unfold nextR
  have hb1 := rd_bound (restOf s i)
  have hb2 := rd_bound (restOf s (i + (rd (restOf s i)).2.2))
  generalize nextR s i bef room = R at *
  have hz : w.alloc (.cells #[.int .u64 0, .int .u64 0] 36) = w.alloc (.cells #[.int .u64 0, .int .u64 0] 36) := rfl
  have hli := Lies.made w 36 #[.int .u64 0, .int .u64 0]
  have hbl : Below w.heap.size w (w.alloc (.cells #[.int .u64 0, .int .u64 0] 36)) := (Below.refl _ _).alloc (Nat.le_refl _) _
  have h1 := h.later hbl
  have ho1 := owns_below ho hbl
  have k1 : Kept (oneRow g) w (w.alloc (.cells #[.int .u64 0, .int .u64 0] 36)) := Kept.alloc _ _ _
  have HV := Lib.hid (varintRead g s i _ h1)
  have HO := Lib.hid ho1
  have HR := Lib.hid h1
  have HL := Lib.hid hli
  have HN := Lib.hid hN
  have hvb : Hid (∀ r, v.ownBlock = some r → r < w.heap.size) := fun r hr => (ho.lt r hr).2
  clear hz h ho hbl h1 ho1 hli hN
  go_enter Try.func28, Try.ntmps28
  go_wp2_with fail
  generalize w.alloc (.cells #[.int .u64 0, .int .u64 0] 36) = w0 at *
  obtain ⟨g6, hg6⟩ : ∃ g6, g6 = w.heap.size := ⟨_, rfl⟩
  rw [← hg6] at HL ⊢
  have hgle : w.heap.size ≤ g6 := by omega
  clear hg6
  refine HV.out.mono ?_
  rintro e w1 ⟨rfl, h1, kk⟩
  have ho1 := owns_rd HO.out HR.out kk (by decide)
  have hl1 := lies_rd HL.out HR.out kk (by decide)
  have k1 := k1.trans kk (fun _ _ h => h)
  have HV2 := fun w (h : RdAt w g s (i + (rd (restOf s i)).2.2)) => varintRead g s _ w h
  have hN := HN.out
  clear HN
  generalize rd (restOf s i) = a at *
  obtain ⟨x, er, c⟩ := a
  simp only at HV2 hN hb1 hb2 h1
  have HV2' := Lib.hid HV2
  clear HV2
  have HV2 := HV2'
  clear HV2'
  have HN := Lib.hid hN
  clear hN
  have HO := Lib.hid ho1
  have HR := Lib.hid h1
  have HL := Lib.hid hl1
  have d0 := hl1.cell 0
  have d1 := hl1.cell 1
  have f0 := hl1.free 0
  have f1 := hl1.free 1
  simp at d0 d1
  clear ho1 h1 hl1 kk HV
  by_cases her : er = 0
  · subst her
    have hN := HN.out
    rw [if_neg (show ¬ (0 : Nat) ≠ 0 by omega)] at hN
    clear HN
    have HN := Lib.hid hN
    clear hN
    go_wp2_with fail
    refine (HV2.out _ HR.out).mono ?_
    rintro e w2 ⟨rfl, h2, kk⟩
    have ho2 := owns_rd HO.out HR.out kk (by decide)
    have hl2 := lies_rd HL.out HR.out kk (by decide)
    have k2 := k1.trans kk (fun _ _ h => h)
    have hN := HN.out
    clear HN
    generalize rd (restOf s (i + c)) = a at *
    obtain ⟨y, er, c2⟩ := a
    simp only at hN hb2 h2
    have HN := Lib.hid hN
    have HO := Lib.hid ho2
    have HR := Lib.hid h2
    have HL := Lib.hid hl2
    have d2 := hl2.cell 0
    have d3 := hl2.cell 1
    have f2 := hl2.free 0
    have f3 := hl2.free 1
    simp at d2 d3
    clear ho2 h2 hl2 kk HV2 hN k1 d0 d1 f0 f1
    by_cases her : er = 0
    · subst her
      have hN := HN.out
      rw [if_neg (show ¬ (0 : Nat) ≠ 0 by omega)] at hN
      clear HN
      have HN := Lib.hid hN
      clear hN
      by_cases hy : y = 18446744073709551615
      · have e6 : ((y : Int) == 18446744073709551615) = true := by rw [beq_iff_eq]; omega
        have hry : room ≤ y := by omega
        have HA := Lib.hid (runsAgain v bef x w2 (SeqS.of_owns HO.out))
        have hR := HN.out
        clear HN hy hb1 hb2
        cases hla : lastIs bef x
        · rw [hla, if_neg (by decide), if_pos hry] at hR
          rw [hla] at HA
          have HR2 := Lib.hid hR
          clear hR hry hla
          go_wp2_with fail
          refine HA.out.mono ?_
          rintro e w' ⟨rfl, rfl⟩
          have hls := (HL.out.put 0 (.int .u64 (0 : Nat))).put 1 (.int .u64 (0 : Nat))
          have hrs := ((HR.out.kept (Kept.put _ g6 0 (.int .u64 (0 : Nat))) (fun (e : g = g6) => by subst e; exact absurd (HR.out.1.same HL.out).1 (by decide))).kept (Kept.put _ g6 1 (.int .u64 (0 : Nat))) (fun (e : g = g6) => by subst e; exact absurd (HR.out.1.same HL.out).1 (by decide)))
          have hks := (k2.trans (Kept.put _ g6 0 (.int .u64 (0 : Nat))) (fun i hi (e : i = g6) => by omega)).trans (Kept.put _ g6 1 (.int .u64 (0 : Nat))) (fun i hi (e : i = g6) => by omega)
          have q0 := hls.cell 0
          have q1 := hls.cell 1
          simp at q0 q1
          have HRS := Lib.hid hrs
          have HKS := Lib.hid hks
          clear hls hrs hks
          go_wp2
          refine bodyPost_ret (v := .tuple #[.agg #[.int .u64 (0 : Nat), .int .u64 (0 : Nat)], .int .i64 (4 : Nat)]) (by simp [results, Try.results28, go_sem, q0, q1]) rfl ?_
          exact ⟨0, 0, by rw [HR2.out], fun h => by (rw [HR2.out] at h; simp at h), by rw [HR2.out]; exact HRS.out, HKS.out⟩
        · rw [hla, if_pos rfl] at hR
          rw [hla] at HA
          have HR2 := Lib.hid hR
          clear hR hry hla
          go_wp2_with fail
          refine HA.out.mono ?_
          rintro e w' ⟨rfl, rfl⟩
          have hls := (HL.out.put 0 (.int .u64 (0 : Nat))).put 1 (.int .u64 (0 : Nat))
          have hrs := ((HR.out.kept (Kept.put _ g6 0 (.int .u64 (0 : Nat))) (fun (e : g = g6) => by subst e; exact absurd (HR.out.1.same HL.out).1 (by decide))).kept (Kept.put _ g6 1 (.int .u64 (0 : Nat))) (fun (e : g = g6) => by subst e; exact absurd (HR.out.1.same HL.out).1 (by decide)))
          have hks := (k2.trans (Kept.put _ g6 0 (.int .u64 (0 : Nat))) (fun i hi (e : i = g6) => by omega)).trans (Kept.put _ g6 1 (.int .u64 (0 : Nat))) (fun i hi (e : i = g6) => by omega)
          have q0 := hls.cell 0
          have q1 := hls.cell 1
          simp at q0 q1
          have HRS := Lib.hid hrs
          have HKS := Lib.hid hks
          clear hls hrs hks
          go_wp2
          refine bodyPost_ret (v := .tuple #[.agg #[.int .u64 (0 : Nat), .int .u64 (0 : Nat)], .int .i64 (3 : Nat)]) (by simp [results, Try.results28, go_sem, q0, q1]) rfl ?_
          exact ⟨0, 0, by rw [HR2.out], fun h => by (rw [HR2.out] at h; simp at h), by rw [HR2.out]; exact HRS.out, HKS.out⟩
      · have e6 : ((y : Int) == 18446744073709551615) = false := by rw [beq_eq_false_iff_ne]; omega
        have hfit : (if lastIs bef x = true then 3 else if room ≤ y then 4 else 0) = fitE bef x (y + 1) room := by
          simp [fitE, Nat.lt_succ_iff]
        have hR := HN.out
        rw [hfit] at hR
        have HR2 := Lib.hid hR
        have hyi : (y : Int) < 18446744073709551615 := by omega
        clear hR HN hy hfit
        have hF : ∀ w', w'.ownsRow B 36 2 v bef.length (cells2 bef) → Calls Try.prog 22 #[v, .agg #[.int .u64 x, .int .u64 ((y : Int) + 1)], .int .u64 room] w' fun e w2 => e = .returned (.int .i64 (fitE bef x (y + 1) room : Nat)) ∧ Below w'.heap.size w' w2 :=
          fun w' ho => runsFits v bef x (y + 1) room w' (SeqS.of_owns ho) (by unfold M64; omega) (by unfold M64; omega)
        have HF := Lib.hid hF
        clear hF
        generalize fitE bef x (y + 1) room = E at *
        have hl11 := Lies.made w2 36 #[.int .u64 (x : Int), .int .u64 ((y : Int) + 1)]
        have hbA : Below w2.heap.size w2 (w2.alloc (.cells #[.int .u64 (x : Int), .int .u64 ((y : Int) + 1)] 36)) := (Below.refl _ _).alloc (Nat.le_refl _) _
        have hoA := owns_below HO.out hbA
        have hrA := HR.out.later hbA
        have hl6 := HL.out.below hbA HL.out.lt
        have hkA := kept_below k2 hbA
        have hg11 : w2.heap.size ≠ g6 := by have := HL.out.lt; omega
        have hgg6 : g ≠ g6 := fun e => by subst e; exact absurd (HR.out.1.same HL.out).1 (by decide)
        go_wp2_with fail
        generalize w2.alloc (.cells #[.int .u64 (x : Int), .int .u64 ((y : Int) + 1)] 36) = wA at *
        generalize w2.heap.size = g11 at *
        clear hbA HO HR HL k2 d2 d3 f2 f3
        have hKeep : Hid (∀ a b' : World, Below a.heap.size a b' → (Lies a g11 36 #[.int .u64 (x : Int), .int .u64 ((y : Int) + 1)] ∧ (∃ p q, Lies a g6 36 #[p, q]) ∧ a.ownsRow B 36 2 v bef.length (cells2 bef) ∧ RdAt a g s (i + c + c2) ∧ Kept (oneRow g) w a) →
            (Lies b' g11 36 #[.int .u64 (x : Int), .int .u64 ((y : Int) + 1)] ∧ (∃ p q, Lies b' g6 36 #[p, q]) ∧ b'.ownsRow B 36 2 v bef.length (cells2 bef) ∧ RdAt b' g s (i + c + c2) ∧ Kept (oneRow g) w b')) :=
          fun a b' hb ⟨h1, ⟨p, q, h2⟩, h3, h4, h5⟩ => ⟨h1.below hb h1.lt, ⟨p, q, h2.below hb h2.lt⟩, owns_below h3 hb, h4.later hb, kept_below h5 hb⟩
        have HC : Hid (∀ w', (Lies w' g11 36 #[.int .u64 (x : Int), .int .u64 ((y : Int) + 1)] ∧ (∃ p q, Lies w' g6 36 #[p, q]) ∧ w'.ownsRow B 36 2 v bef.length (cells2 bef) ∧ RdAt w' g s (i + c + c2) ∧ Kept (oneRow g) w w') ∧ Below 0 wA w' ∧ 0 ≤ w'.heap.size →
            Calls Try.prog 22 #[v, .agg #[.int .u64 x, .int .u64 ((y : Int) + 1)], .int .u64 room] w' fun e w2 => e = .returned (.int .i64 (E : Nat)) ∧ Below w'.heap.size w' w2) := fun w' h => HF.out w' h.1.2.2.1
        try simp only [Act.put, List.setIfInBounds_toArray, List.set_cons_zero, List.set_cons_succ]
        refine wp_region_held_drew (S := fun w' => (Lies w' g11 36 #[.int .u64 (x : Int), .int .u64 ((y : Int) + 1)] ∧ (∃ p q, Lies w' g6 36 #[p, q]) ∧ w'.ownsRow B 36 2 v bef.length (cells2 bef) ∧ RdAt w' g s (i + c + c2) ∧ Kept (oneRow g) w w') ∧ Below 0 wA w' ∧ 0 ≤ w'.heap.size) (by kernel_rfl)
          ⟨⟨hl11, ⟨_, _, hl6⟩, hoA, hrA.kept (Kept.drewN noRow wA 1) (fun h => h), hkA.trans (Kept.drewN noRow wA 1) (fun _ _ h => h.elim)⟩, (Below.refl 0 wA).drew, Nat.zero_le _⟩ (fun hHeld => ?_)
        clear hl11 hl6 hoA hrA hkA
        refine wpAnyH_take (i := 0) (v := (.agg #[.int .u64 x, .int .u64 ((y : Int) + 1)])) rfl (by kernel_rfl) (by kernel_rfl) (by kernel_rfl) (fun _ _ _ h => h) (Or.inl ⟨by rfl, fun w h => by (simp only [List.getElem_toArray, List.getElem_cons_succ, List.getElem_cons_zero]; have h1 := h.1.1.cell 0; have h2 := h.1.1.cell 1; simp at h1 h2; clear h; go_simp)⟩) (by assumption) ?_
        simp only [Act.put, List.getElem_toArray, List.getElem_cons_succ, List.getElem_cons_zero, List.setIfInBounds_toArray, List.set_cons_zero, List.set_cons_succ]
        refine wpAnyH_take (i := 1) (v := v) rfl (by kernel_rfl) (by kernel_rfl) (by kernel_rfl) (fun _ _ _ h => h) (Or.inl ⟨by rfl, fun w h => by (simp only [List.getElem_toArray, List.getElem_cons_succ, List.getElem_cons_zero]; clear h; go_simp)⟩) (by assumption) ?_
        simp only [Act.put, List.getElem_toArray, List.getElem_cons_succ, List.getElem_cons_zero, List.setIfInBounds_toArray, List.set_cons_zero, List.set_cons_succ]
        refine wpAnyH_take (i := 2) (v := (.agg #[.int .u64 x, .int .u64 ((y : Int) + 1)])) rfl (by kernel_rfl) (by kernel_rfl) (by kernel_rfl) (fun _ _ _ h => h) (Or.inl ⟨by rfl, fun w h => by (simp only [List.getElem_toArray, List.getElem_cons_succ, List.getElem_cons_zero]; have h1 := h.1.1.cell 0; have h2 := h.1.1.cell 1; simp at h1 h2; clear h; go_simp)⟩) (by assumption) ?_
        simp only [Act.put, List.getElem_toArray, List.getElem_cons_succ, List.getElem_cons_zero, List.setIfInBounds_toArray, List.set_cons_zero, List.set_cons_succ]
        refine wpAnyH_take (i := 3) (v := (.int .u64 room)) rfl (by kernel_rfl) (by kernel_rfl) (by kernel_rfl) (fun _ _ _ h => h) (Or.inl ⟨by rfl, fun w h => by (simp only [List.getElem_toArray, List.getElem_cons_succ, List.getElem_cons_zero]; clear h; go_simp)⟩) (by assumption) ?_
        simp only [Act.put, List.getElem_toArray, List.getElem_cons_succ, List.getElem_cons_zero, List.setIfInBounds_toArray, List.set_cons_zero, List.set_cons_succ]
        refine wpAnyH_ready (rs := [4]) (by kernel_rfl) (by simp) ?_
        refine AllReadyH.cons rfl (fun K hK => ?_) AllReadyH.nil
        rw [if_pos (by rfl)]
        go_wp2_with fail
        refine (keep_callS hKeep.out (HC.out _ hHeld) (by assumption)).mono ?_
        rintro e w' ⟨he, q⟩
        cases he
        dsimp only
        refine hK.out _ _ q (fun hHeld => ?_)
        clear hK K
        try simp only [Act.put, List.setIfInBounds_toArray, List.set_cons_zero, List.set_cons_succ]
        refine wpAnyH_ready (rs := [5]) (by kernel_rfl) (by simp) ?_
        refine AllReadyH.cons rfl (fun K hK => ?_) AllReadyH.nil
        rw [if_pos (by rfl)]
        obtain ⟨⟨hl11, ⟨p, q, hl6⟩, ho, hr, hk⟩, hb0, hb1⟩ := hHeld
        have d2 := hl6.cell 0
        have d3 := hl6.cell 1
        have f2 := hl6.free 0
        have f3 := hl6.free 1
        simp at d2 d3
        have hls := (hl6.put 0 (.int .u64 (x : Int))).put 1 (.int .u64 ((y : Int) + 1))
        have hl11 := (hl11.far (p := ⟨g6, 0, none⟩) hg11 (.int .u64 (x : Int))).far (p := ⟨g6, 1, none⟩) hg11 (.int .u64 ((y : Int) + 1))
        have ho := owns_kept (owns_kept ho (Kept.put _ g6 0 (.int .u64 (x : Int))) (fun r _ hr _ (e : r = g6) => by have := hvb.out r hr; omega)) (Kept.put _ g6 1 (.int .u64 ((y : Int) + 1))) (fun r _ hr _ (e : r = g6) => by have := hvb.out r hr; omega)
        have hr := (hr.kept (Kept.put _ g6 0 (.int .u64 (x : Int))) (fun (e : g = g6) => hgg6 e)).kept (Kept.put _ g6 1 (.int .u64 ((y : Int) + 1))) (fun (e : g = g6) => hgg6 e)
        have hk := (hk.trans (Kept.put _ g6 0 (.int .u64 (x : Int))) (fun i hi (e : i = g6) => by omega)).trans (Kept.put _ g6 1 (.int .u64 ((y : Int) + 1))) (fun i hi (e : i = g6) => by omega)
        have hb0 := (hb0.setCell (p := ⟨g6, 0, none⟩) (Nat.zero_le _) (.int .u64 (x : Int))).setCell (p := ⟨g6, 1, none⟩) (Nat.zero_le _) (.int .u64 ((y : Int) + 1))
        have q0 := hls.cell 0
        have q1 := hls.cell 1
        simp at q0 q1 hls
        go_wp2_with fail
        refine hK.out _ _ ⟨⟨hl11, ⟨_, _, hls⟩, ho, hr, hk⟩, hb0, Nat.zero_le _⟩ (fun hHeld => ?_)
        have HRS := Lib.hid hr
        have HKS := Lib.hid hk
        clear hK K hl11 hls ho hr hk hb0 hb1
        try simp only [Act.put, List.setIfInBounds_toArray, List.set_cons_zero, List.set_cons_succ]
        refine wpAnyH_ready (rs := [6]) (by kernel_rfl) (by simp) ?_
        refine AllReadyH.cons rfl (fun K hK => ?_) AllReadyH.nil
        rw [if_pos (by rfl)]
        go_wp2_with fail
        refine hK.out _ _ (by assumption) (fun hHeld => ?_)
        clear hK K
        try simp only [Act.put, List.setIfInBounds_toArray, List.set_cons_zero, List.set_cons_succ]
        refine wpAnyH_done (by kernel_rfl) ?_ _
        go_wp2
        refine bodyPost_ret (v := .tuple #[.agg #[.int .u64 x, .int .u64 (y + 1 : Nat)], .int .i64 (E : Nat)]) (by simp [results, Try.results28, go_sem, q0, q1]) rfl ?_
        exact ⟨x, y + 1, by rw [HR2.out], fun h => by rw [HR2.out], by rw [HR2.out]; exact HRS.out, HKS.out⟩
    · have e5 : ((er : Int) != 0) = true := by simp; omega
      have hR := HN.out
      rw [if_pos her] at hR
      have HR2 := Lib.hid hR
      clear hR HN her hb1 hb2
      have hls := (HL.out.put 0 (.int .u64 (0 : Nat))).put 1 (.int .u64 (0 : Nat))
      have hrs := ((HR.out.kept (Kept.put _ g6 0 (.int .u64 (0 : Nat))) (fun (e : g = g6) => by subst e; exact absurd (HR.out.1.same HL.out).1 (by decide))).kept (Kept.put _ g6 1 (.int .u64 (0 : Nat))) (fun (e : g = g6) => by subst e; exact absurd (HR.out.1.same HL.out).1 (by decide)))
      have hks := (k2.trans (Kept.put _ g6 0 (.int .u64 (0 : Nat))) (fun i hi (e : i = g6) => by omega)).trans (Kept.put _ g6 1 (.int .u64 (0 : Nat))) (fun i hi (e : i = g6) => by omega)
      have q0 := hls.cell 0
      have q1 := hls.cell 1
      simp at q0 q1
      have HRS := Lib.hid hrs
      have HKS := Lib.hid hks
      clear hls hrs hks
      go_wp2
      refine bodyPost_ret (v := .tuple #[.agg #[.int .u64 (0 : Nat), .int .u64 (0 : Nat)], .int .i64 (er : Nat)]) (by simp [results, Try.results28, go_sem, q0, q1]) rfl ?_
      exact ⟨0, 0, by rw [HR2.out], fun h => by (rw [HR2.out]), by rw [HR2.out]; exact HRS.out, HKS.out⟩
  · have e5 : ((er : Int) != 0) = true := by simp; omega
    have hR := HN.out
    rw [if_pos her] at hR
    have HR2 := Lib.hid hR
    clear hR HN her HV2 hb1 hb2
    have hls := (HL.out.put 0 (.int .u64 (0 : Nat))).put 1 (.int .u64 (0 : Nat))
    have hrs := ((HR.out.kept (Kept.put _ g6 0 (.int .u64 (0 : Nat))) (fun (e : g = g6) => by subst e; exact absurd (HR.out.1.same HL.out).1 (by decide))).kept (Kept.put _ g6 1 (.int .u64 (0 : Nat))) (fun (e : g = g6) => by subst e; exact absurd (HR.out.1.same HL.out).1 (by decide)))
    have hks := (k1.trans (Kept.put _ g6 0 (.int .u64 (0 : Nat))) (fun i hi (e : i = g6) => by omega)).trans (Kept.put _ g6 1 (.int .u64 (0 : Nat))) (fun i hi (e : i = g6) => by omega)
    have q0 := hls.cell 0
    have q1 := hls.cell 1
    simp at q0 q1
    have HRS := Lib.hid hrs
    have HKS := Lib.hid hks
    clear hls hrs hks
    go_wp2
    refine bodyPost_ret (v := .tuple #[.agg #[.int .u64 (0 : Nat), .int .u64 (0 : Nat)], .int .i64 (er : Nat)]) (by simp [results, Try.results28, go_sem, q0, q1]) rfl ?_
    exact ⟨0, 0, by rw [HR2.out], fun h => by (rw [HR2.out]), by rw [HR2.out]; exact HRS.out, HKS.out⟩
end Go.Proofs.Ytjkgckdldmhgjaa
