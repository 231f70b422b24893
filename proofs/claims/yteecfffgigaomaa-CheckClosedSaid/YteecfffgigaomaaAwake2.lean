import Derived.Test.YteecfffgigaomaaAwake
namespace Go.Proofs.Yteecfffgigaomaa
open Go.RowKit
set_option linter.unusedVariables false
set_option linter.unusedSimpArgs false
theorem pg_none (w : World) : PgAt w none 0 none 0 ⟨[], []⟩ := ⟨SeqS.nil _ _, [], SeqS.nil _ _, fun i l h => by simp at h⟩
set_option maxHeartbeats 16000000 in
set_option maxRecDepth 100000 in
theorem awake_any (w : World) : Calls Try.prog 9 #[] w fun e w' => e = .returned (.bool true) ∧ Below w.heap.size w w' := by
  have HB := Lib.hid (Below.refl w.heap.size w)
  have i0 : i64 0 := ⟨by decide, by decide⟩
  have i1 : i64 1 := ⟨by decide, by decide⟩
  have HO0 := Lib.hid (samp_ok 0 i0)
  have HO1 := Lib.hid (samp_ok 1 i1)
  have I0 := Lib.hid i0
  have I1 := Lib.hid i1
  clear i0 i1
  go_enter Try.func9, Try.ntmps9
  go_wp2_with fail
  refine (sample_any 1 _).mono ?_
  rintro e wn ⟨A, c, B, d, rfl, hp, hbn⟩
  replace HB := Lib.hid (HB.out.trans (hbn.mono HB.out.size))
  have HC := Lib.hid (check_any _ A c B d wn hp HO1.out)
  rw [samp1] at HC
  clear hp hbn
  go_wp2_with fail
  refine HC.out.mono ?_
  rintro e wm ⟨rfl, hbm⟩
  clear HC
  replace HB := Lib.hid (HB.out.trans (hbm.mono HB.out.size))
  clear hbm
  go_wp2_with fail
  refine (sample_any 0 _).mono ?_
  rintro e wn ⟨A, c, B, d, rfl, hp, hbn⟩
  replace HB := Lib.hid (HB.out.trans (hbn.mono HB.out.size))
  have HC := Lib.hid (check_any _ A c B d wn hp HO0.out)
  rw [samp0] at HC
  clear hp hbn
  go_wp2_with fail
  refine HC.out.mono ?_
  rintro e wm2 ⟨rfl, hbm⟩
  clear HC
  replace HB := Lib.hid (HB.out.trans (hbm.mono HB.out.size))
  clear hbm
  go_wp2_with fail
  refine (sample_any 0 _).mono ?_
  rintro e wn ⟨A, c, B, d, rfl, hp, hbn⟩
  replace HB := Lib.hid (HB.out.trans (hbn.mono HB.out.size))
  have HC := Lib.hid (ckReach _ A c B d 0 wn hp HO0.out I0.out)
  clear hp hbn
  go_wp2_with fail
  refine HC.out.mono ?_
  rintro e wm3 ⟨v7, rfl, hbm, _, hv⟩
  have ho7 := hv sampN0 (sampT 0) rfl
  rw [sampN0]
  rw [samp_rch] at ho7
  have HO7 := Lib.hid (owns_mono ho7 HB.out.size)
  clear HC hv ho7
  replace HB := Lib.hid (HB.out.trans (hbm.mono HB.out.size))
  clear hbm
  go_wp2_with fail
  refine (sample_any 0 _).mono ?_
  rintro e wn ⟨A, c, B, d, rfl, hp, hbn⟩
  replace HB := Lib.hid (HB.out.trans (hbn.mono HB.out.size))
  have HC := Lib.hid (ckEnds _ A c B d 0 wn hp HO0.out I0.out)
  replace HO7 := Lib.hid (owned_below HO7.out hbn)
  clear hp hbn
  go_wp2_with fail
  refine HC.out.mono ?_
  rintro e wm4 ⟨v9, rfl, hbm, _, hv⟩
  have hv9 := hv sampN0 (sampT 0) rfl
  rw [samp_ends] at hv9
  subst hv9
  rw [sampN0]
  replace HO7 := Lib.hid (owned_below HO7.out hbm)
  clear HC hv
  replace HB := Lib.hid (HB.out.trans (hbm.mono HB.out.size))
  clear hbm
  go_wp2_with fail
  refine (sample_any 0 _).mono ?_
  rintro e wn ⟨A, c, B, d, rfl, hp, hbn⟩
  replace HB := Lib.hid (HB.out.trans (hbn.mono HB.out.size))
  have HC := Lib.hid (ckTouches _ A c B d 0 wn hp HO0.out I0.out)
  replace HO7 := Lib.hid (owned_below HO7.out hbn)
  clear hp hbn
  go_wp2_with fail
  refine HC.out.mono ?_
  rintro e wm5 ⟨v11, rfl, hbm, _, hv⟩
  have ho11 := hv sampN0 (sampT 0) rfl
  rw [samp_touch] at ho11
  rw [sampN0]
  have HO11 := Lib.hid (owns_mono ho11 HB.out.size)
  replace HO7 := Lib.hid (owned_below HO7.out hbm)
  clear HC hv ho11
  replace HB := Lib.hid (HB.out.trans (hbm.mono HB.out.size))
  clear hbm
  go_wp2_with fail
  refine (sample_any 0 _).mono ?_
  rintro e wn ⟨A, c, B, d, rfl, hp, hbn⟩
  replace HB := Lib.hid (HB.out.trans (hbn.mono HB.out.size))
  have HC := Lib.hid (ckReach _ A c B d 1 wn hp HO0.out I1.out)
  replace HO7 := Lib.hid (owned_below HO7.out hbn)
  replace HO11 := Lib.hid (owned_below HO11.out hbn)
  clear hp hbn
  go_wp2_with fail
  refine HC.out.mono ?_
  rintro e wm6 ⟨v13, rfl, hbm, hv, _⟩
  have hv13 := hv (by rw [sampN1]; decide)
  subst hv13
  rw [sampN1]
  replace HO7 := Lib.hid (owned_below HO7.out hbm)
  replace HO11 := Lib.hid (owned_below HO11.out hbm)
  clear HC hv
  replace HB := Lib.hid (HB.out.trans (hbm.mono HB.out.size))
  clear hbm
  go_wp2_with fail
  refine (sample_any 1 _).mono ?_
  rintro e wn ⟨A, c, B, d, rfl, hp, hbn⟩
  replace HB := Lib.hid (HB.out.trans (hbn.mono HB.out.size))
  have HC := Lib.hid (ckEnds _ A c B d 0 wn hp HO1.out I0.out)
  replace HO7 := Lib.hid (owned_below HO7.out hbn)
  replace HO11 := Lib.hid (owned_below HO11.out hbn)
  clear hp hbn
  go_wp2_with fail
  refine HC.out.mono ?_
  rintro e wm7 ⟨v15, rfl, hbm, hv, _⟩
  have hv15 := hv (by rw [sampN2]; decide)
  subst hv15
  rw [sampN2]
  replace HO7 := Lib.hid (owned_below HO7.out hbm)
  replace HO11 := Lib.hid (owned_below HO11.out hbm)
  clear HC hv
  replace HB := Lib.hid (HB.out.trans (hbm.mono HB.out.size))
  clear hbm
  have HC := Lib.hid (check_any ⟨[], []⟩ none 0 none 0 wm7 (pg_none _) ⟨fun x hx => by simp at hx, fun x hx => by simp at hx⟩)
  rw [none0] at HC
  go_wp2_with fail
  refine HC.out.mono ?_
  rintro e wm8 ⟨rfl, hbm⟩
  replace HO7 := Lib.hid (owned_below HO7.out hbm)
  replace HO11 := Lib.hid (owned_below HO11.out hbm)
  clear HC
  replace HB := Lib.hid (HB.out.trans (hbm.mono HB.out.size))
  clear hbm
  go_wp2_with fail
  refine (sample_any 0 _).mono ?_
  rintro e wn ⟨A, c, B, d, rfl, hp, hbn⟩
  replace HB := Lib.hid (HB.out.trans (hbn.mono HB.out.size))
  have HC := Lib.hid (ckRight _ A c B d wn hp HO0.out)
  rw [sampR0] at HC
  replace HO7 := Lib.hid (owned_below HO7.out hbn)
  replace HO11 := Lib.hid (owned_below HO11.out hbn)
  clear hp hbn
  go_wp2_with fail
  refine HC.out.mono ?_
  rintro e wm9 ⟨rfl, hbm⟩
  replace HO7 := Lib.hid (owned_below HO7.out hbm)
  replace HO11 := Lib.hid (owned_below HO11.out hbm)
  clear HC
  replace HB := Lib.hid (HB.out.trans (hbm.mono HB.out.size))
  clear hbm
  go_wp2_with fail
  refine (sample_any 1 _).mono ?_
  rintro e wn ⟨A, c, B, d, rfl, hp, hbn⟩
  replace HB := Lib.hid (HB.out.trans (hbn.mono HB.out.size))
  have HC := Lib.hid (ckRight _ A c B d wn hp HO1.out)
  rw [sampR1] at HC
  replace HO7 := Lib.hid (owned_below HO7.out hbn)
  replace HO11 := Lib.hid (owned_below HO11.out hbn)
  clear hp hbn
  go_wp2_with fail
  refine HC.out.mono ?_
  rintro e wm10 ⟨rfl, hbm⟩
  replace HO7 := Lib.hid (owned_below HO7.out hbm)
  replace HO11 := Lib.hid (owned_below HO11.out hbm)
  clear HC
  replace HB := Lib.hid (HB.out.trans (hbm.mono HB.out.size))
  clear hbm
  obtain ⟨g7, c7, rfl, _, hl7, hc7, hm7, hg7⟩ := ownsRow_open HO7.out (by decide)
  obtain ⟨g11, c11, rfl, _, hl11, hc11, hm11, hg11⟩ := ownsRow_open HO11.out (by decide)
  have q2 := hg7 2 (.bool true) rfl
  have q3 := hg7 3 (.bool false) rfl
  have q4 := hg7 4 (.bool false) rfl
  have q0 := hg11 0 (.int .i64 0) rfl
  unfold maxLen at hm7 hm11
  clear hg7 hg11
  go_wp2
  go_ret
  exact ⟨rfl, HB.out⟩
end Go.Proofs.Yteecfffgigaomaa
