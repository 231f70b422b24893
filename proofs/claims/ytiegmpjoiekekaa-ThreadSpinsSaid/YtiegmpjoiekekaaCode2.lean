/-
  code.Right, code.Jumps.
-/
import Derived.Test.YtiegmpjoiekekaaCode
import Derived.Deep.DeepCutAuto
namespace Go.Proofs.Ytiegmpjoiekekaa
open Go.RowKit
set_option linter.unusedVariables false
set_option linter.unusedSimpArgs false
abbrev inZ : Array Value := #[.int .i64 0, .int .i64 0, .int .i64 0, .int .i64 0, .int .i64 0, .int .u64 0]
abbrev st6 (w : World) (b : Nat) (a0 a1 a2 a3 a4 a5 : Value) : World := (((((w.setCell ⟨b, 0, none⟩ a0).setCell ⟨b, 1, none⟩ a1).setCell ⟨b, 2, none⟩ a2).setCell ⟨b, 3, none⟩ a3).setCell ⟨b, 4, none⟩ a4).setCell ⟨b, 5, none⟩ a5
theorem st6_lies {w : World} {b : Nat} {T : TypeId} {z0 z1 z2 z3 z4 z5 a0 a1 a2 a3 a4 a5 : Value} (h : Lies w b T #[z0, z1, z2, z3, z4, z5]) : Lies (st6 w b a0 a1 a2 a3 a4 a5) b T #[a0, a1, a2, a3, a4, a5] := (((((h.put 0 a0).put 1 a1).put 2 a2).put 3 a3).put 4 a4).put 5 a5
theorem st6_kept (w : World) (b : Nat) (a0 a1 a2 a3 a4 a5 : Value) : Kept (oneRow b) w (st6 w b a0 a1 a2 a3 a4 a5) :=
  (((((Kept.put w b 0 a0).trans (Kept.put _ b 1 a1) (fun _ _ h => h)).trans (Kept.put _ b 2 a2) (fun _ _ h => h)).trans (Kept.put _ b 3 a3) (fun _ _ h => h)).trans (Kept.put _ b 4 a4) (fun _ _ h => h)).trans (Kept.put _ b 5 a5) (fun _ _ h => h)
theorem op_split (op : Int) : opB op = ((decide (1 ≤ op) && decide (op ≤ 17)) || (decide (18 ≤ op) && decide (op ≤ 25))) := by
  unfold opB
  rw [Bool.eq_iff_iff]
  simp only [Bool.or_eq_true, Bool.and_eq_true, decide_eq_true_eq]
  omega
theorem jumps_any (x : In) (w : World) : Calls Try.prog 27 #[.agg (inC x)] w fun e w' => e = .returned (.bool (jumpsB x.op)) ∧ Below w.heap.size w w' := by
  unfold jumpsB
  have hb : Below w.heap.size w (w.alloc (.cells (inC x) 50)) := (Below.refl _ _).alloc (Nat.le_refl _) _
  by_cases h : (15 : Int) ≤ x.op
  · have e1 : decide ((15 : Int) ≤ x.op) = true := by simpa using h
    go_enter Try.func27, Try.ntmps27
    go_wp2
    go_ret
    exact ⟨by simp [h], hb⟩
  · have e1 : decide ((15 : Int) ≤ x.op) = false := by simpa using h
    go_enter Try.func27, Try.ntmps27
    go_wp2
    go_ret
    exact ⟨by simp [h], hb⟩
set_option maxHeartbeats 8000000 in
set_option maxRecDepth 100000 in
theorem right_any (x : In) (w : World) : Calls Try.prog 26 #[.agg (inC x)] w fun e w' => e = .returned (.bool (rightB x)) ∧ Below w.heap.size w w' := by
  have hb0 : Below w.heap.size w (w.alloc (.cells (inC x) 50)) := (Below.refl _ _).alloc (Nat.le_refl _) _
  have l0 := Lies.made w 50 (inC x)
  have hop := op_split x.op
  obtain ⟨pb, hpb⟩ : ∃ pb, (decide (1 ≤ x.op) && decide (x.op ≤ 17)) = pb := ⟨_, rfl⟩
  obtain ⟨sb, hsb⟩ : ∃ sb, (decide (18 ≤ x.op) && decide (x.op ≤ 25)) = sb := ⟨_, rfl⟩
  have HP : Hid (∀ w, Calls Try.prog 40 #[.int .i64 x.op] w fun e w' => e = .returned (.bool pb) ∧ w = w') := fun w => by rw [← hpb]; exact plain_any _ _
  have HS : Hid (∀ w, Calls Try.prog 43 #[.int .i64 x.op] w fun e w' => e = .returned (.bool sb) ∧ w = w') := fun w => by rw [← hsb]; exact seen_any _ _
  rw [hpb, hsb] at hop
  clear hpb hsb
  have HB0 := Lib.hid hb0
  have HL0 := Lib.hid l0
  have HW := Lib.hid within_any
  have hr : rightB x = (opB x.op && (wB x.a (gL x.op).1 && (wB x.b (gL x.op).2.1 && (wB x.c (gL x.op).2.2.1 && (wB x.d (gL x.op).2.2.2 && kB x))))) := rfl
  clear hb0 l0
  by_cases hno : opB x.op = false
  · rw [hno, Bool.false_and] at hr
    have HR := Lib.hid hr
    rw [hno] at hop
    obtain ⟨rfl, rfl⟩ : pb = false ∧ sb = false := by cases pb <;> cases sb <;> simp at hop ⊢
    clear hop hno hr
    go_enter Try.func26, Try.ntmps26
    go_wp2_with fail
    generalize w.alloc (.cells (inC x) 50) = w1 at *
    have x0 := (HL0.out.cell 0).trans (show _ = some (Value.int .i64 x.op) from rfl)
    have hx := HL0.out.lt
    refine (HP.out _).mono ?_
    rintro e w' ⟨rfl, rfl⟩
    go_wp2_with fail
    refine (HS.out _).mono ?_
    rintro e w' ⟨rfl, rfl⟩
    go_wp2
    go_ret
    exact ⟨ret_bool (by rw [HR.out]), HB0.out⟩
  · have hyes : opB x.op = true := by simpa using hno
    rw [hyes, Bool.true_and] at hr
    rw [hyes] at hop
    have HG := Lib.hid (fun w => greatest_lit x.op w (op_lit hyes))
    unfold gV at HG
    have HR := Lib.hid hr
    have HOP := Lib.hid hop
    clear hr hno hyes hop
    unfold kB at HR
    have hgk := gK_wf x.op
    generalize gK x.op = gk at *
    generalize (gL x.op).1 = ga at *
    generalize (gL x.op).2.1 = gb at *
    generalize (gL x.op).2.2.1 = gc at *
    generalize (gL x.op).2.2.2 = gd at *
    obtain ⟨b1, h1⟩ : ∃ b, wB x.a ga = b := ⟨_, rfl⟩
    obtain ⟨b2, h2⟩ : ∃ b, wB x.b gb = b := ⟨_, rfl⟩
    obtain ⟨b3, h3⟩ : ∃ b, wB x.c gc = b := ⟨_, rfl⟩
    obtain ⟨b4, h4⟩ : ∃ b, wB x.d gd = b := ⟨_, rfl⟩
    obtain ⟨b5, h5⟩ : ∃ b, decide (x.k ≤ gk) = b := ⟨_, rfl⟩
    have W1 := Lib.hid (fun w => within_any x.a ga w)
    have W2 := Lib.hid (fun w => within_any x.b gb w)
    have W3 := Lib.hid (fun w => within_any x.c gc w)
    have W4 := Lib.hid (fun w => within_any x.d gd w)
    rw [h1] at W1 HR
    rw [h2] at W2 HR
    rw [h3] at W3 HR
    rw [h4] at W4 HR
    rw [h5] at HR
    clear h1 h2 h3 h4 HW
    go_enter Try.func26, Try.ntmps26
    go_wp2_with fail
    generalize w.alloc (.cells (inC x) 50) = w1 at *
    have x0 := (HL0.out.cell 0).trans (show _ = some (Value.int .i64 x.op) from rfl)
    have hx := HL0.out.lt
    refine (HP.out _).mono ?_
    rintro e w' ⟨rfl, rfl⟩
    cases pb
    · obtain rfl : sb = true := by simpa using HOP.out.symm
      go_wp2_with fail
      refine (HS.out _).mono ?_
      rintro e w' ⟨rfl, rfl⟩
      go_wp2_with fail
      refine (HG.out _).mono ?_
      rintro e w2 ⟨rfl, hb2⟩
      have hx2 := HL0.out.below hb2 HL0.out.lt
      have HB2 := Lib.hid (HB0.out.trans (hb2.mono HB0.out.size))
      have HL2 := Lib.hid hx2
      clear x0 hx hx2 hb2 HB0 HL0 HG HP HS
      go_upto_region 4 with (fail)
      have HL3 := Lib.hid (HL2.out.alloc (.cells #[.int .i64 0, .int .i64 ga, .int .i64 gb, .int .i64 gc, .int .i64 gd, .int .u64 (gk : Int)] 50))
      have HL4 := Lib.hid (Lies.made w2 50 #[.int .i64 0, .int .i64 ga, .int .i64 gb, .int .i64 gc, .int .i64 gd, .int .u64 (gk : Int)])
      have HB3 := Lib.hid (HB2.out.alloc HB2.out.size (.cells #[.int .i64 0, .int .i64 ga, .int .i64 gb, .int .i64 gc, .int .i64 gd, .int .u64 (gk : Int)] 50))
      generalize w2.alloc (.cells #[.int .i64 0, .int .i64 ga, .int .i64 gb, .int .i64 gc, .int .i64 gd, .int .u64 (gk : Int)] 50) = w3 at *
      generalize w2.heap.size = n2 at *
      have y1 := (HL3.out.cell 1).trans (show _ = some (Value.int .i64 x.a) from rfl)
      have y2 := (HL3.out.cell 2).trans (show _ = some (Value.int .i64 x.b) from rfl)
      have y3 := (HL3.out.cell 3).trans (show _ = some (Value.int .i64 x.c) from rfl)
      have y4 := (HL3.out.cell 4).trans (show _ = some (Value.int .i64 x.d) from rfl)
      have y5 := (HL3.out.cell 5).trans (show _ = some (Value.int .u64 (x.k : Int)) from rfl)
      have z1 := (HL4.out.cell 1).trans (show _ = some (Value.int .i64 ga) from rfl)
      have z2 := (HL4.out.cell 2).trans (show _ = some (Value.int .i64 gb) from rfl)
      have z3 := (HL4.out.cell 3).trans (show _ = some (Value.int .i64 gc) from rfl)
      have z4 := (HL4.out.cell 4).trans (show _ = some (Value.int .i64 gd) from rfl)
      have z5 := (HL4.out.cell 5).trans (show _ = some (Value.int .u64 (gk : Int)) from rfl)
      have ly := HL3.out.lt
      have lz := HL4.out.lt
      clear HL2 HB2 HL3 HL4
      go_wp2_with fail
      refine (W1.out _).mono ?_
      rintro e w' ⟨rfl, rfl⟩
      cases b1
      · go_wp2
        go_ret
        exact ⟨ret_bool (by rw [HR.out]; simp [h5]), HB3.out⟩
      go_wp2_with fail
      refine (W2.out _).mono ?_
      rintro e w' ⟨rfl, rfl⟩
      cases b2
      · go_wp2
        go_ret
        exact ⟨ret_bool (by rw [HR.out]; simp [h5]), HB3.out⟩
      go_wp2_with fail
      refine (W3.out _).mono ?_
      rintro e w' ⟨rfl, rfl⟩
      cases b3
      · go_wp2
        go_ret
        exact ⟨ret_bool (by rw [HR.out]; simp [h5]), HB3.out⟩
      go_wp2_with fail
      refine (W4.out _).mono ?_
      rintro e w' ⟨rfl, rfl⟩
      cases b4
      · go_wp2
        go_ret
        exact ⟨ret_bool (by rw [HR.out]; simp [h5]), HB3.out⟩
      go_wp2
      go_ret
      exact ⟨ret_bool (by rw [HR.out]; simp [h5]), HB3.out⟩
    · go_wp2_with fail
      refine (HG.out _).mono ?_
      rintro e w2 ⟨rfl, hb2⟩
      have hx2 := HL0.out.below hb2 HL0.out.lt
      have HB2 := Lib.hid (HB0.out.trans (hb2.mono HB0.out.size))
      have HL2 := Lib.hid hx2
      clear x0 hx hx2 hb2 HB0 HL0 HG HP HS
      go_upto_region 4 with (fail)
      have HL3 := Lib.hid (HL2.out.alloc (.cells #[.int .i64 0, .int .i64 ga, .int .i64 gb, .int .i64 gc, .int .i64 gd, .int .u64 (gk : Int)] 50))
      have HL4 := Lib.hid (Lies.made w2 50 #[.int .i64 0, .int .i64 ga, .int .i64 gb, .int .i64 gc, .int .i64 gd, .int .u64 (gk : Int)])
      have HB3 := Lib.hid (HB2.out.alloc HB2.out.size (.cells #[.int .i64 0, .int .i64 ga, .int .i64 gb, .int .i64 gc, .int .i64 gd, .int .u64 (gk : Int)] 50))
      generalize w2.alloc (.cells #[.int .i64 0, .int .i64 ga, .int .i64 gb, .int .i64 gc, .int .i64 gd, .int .u64 (gk : Int)] 50) = w3 at *
      generalize w2.heap.size = n2 at *
      have y1 := (HL3.out.cell 1).trans (show _ = some (Value.int .i64 x.a) from rfl)
      have y2 := (HL3.out.cell 2).trans (show _ = some (Value.int .i64 x.b) from rfl)
      have y3 := (HL3.out.cell 3).trans (show _ = some (Value.int .i64 x.c) from rfl)
      have y4 := (HL3.out.cell 4).trans (show _ = some (Value.int .i64 x.d) from rfl)
      have y5 := (HL3.out.cell 5).trans (show _ = some (Value.int .u64 (x.k : Int)) from rfl)
      have z1 := (HL4.out.cell 1).trans (show _ = some (Value.int .i64 ga) from rfl)
      have z2 := (HL4.out.cell 2).trans (show _ = some (Value.int .i64 gb) from rfl)
      have z3 := (HL4.out.cell 3).trans (show _ = some (Value.int .i64 gc) from rfl)
      have z4 := (HL4.out.cell 4).trans (show _ = some (Value.int .i64 gd) from rfl)
      have z5 := (HL4.out.cell 5).trans (show _ = some (Value.int .u64 (gk : Int)) from rfl)
      have ly := HL3.out.lt
      have lz := HL4.out.lt
      clear HL2 HB2 HL3 HL4
      go_wp2_with fail
      refine (W1.out _).mono ?_
      rintro e w' ⟨rfl, rfl⟩
      cases b1
      · go_wp2
        go_ret
        exact ⟨ret_bool (by rw [HR.out]; simp [h5]), HB3.out⟩
      go_wp2_with fail
      refine (W2.out _).mono ?_
      rintro e w' ⟨rfl, rfl⟩
      cases b2
      · go_wp2
        go_ret
        exact ⟨ret_bool (by rw [HR.out]; simp [h5]), HB3.out⟩
      go_wp2_with fail
      refine (W3.out _).mono ?_
      rintro e w' ⟨rfl, rfl⟩
      cases b3
      · go_wp2
        go_ret
        exact ⟨ret_bool (by rw [HR.out]; simp [h5]), HB3.out⟩
      go_wp2_with fail
      refine (W4.out _).mono ?_
      rintro e w' ⟨rfl, rfl⟩
      cases b4
      · go_wp2
        go_ret
        exact ⟨ret_bool (by rw [HR.out]; simp [h5]), HB3.out⟩
      go_wp2
      go_ret
      exact ⟨ret_bool (by rw [HR.out]; simp [h5]), HB3.out⟩
end Go.Proofs.Ytiegmpjoiekekaa
