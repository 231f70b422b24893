import Derived.Test.YtcpgneimagmknaaGreatDoorZz7
namespace Go.Proofs.YtcpgneimagmknaaGreatDoor
open Go.RowKit
set_option linter.unusedVariables false
set_option linter.unusedSimpArgs false
theorem rdSmp (w : World) (h : Ld w) : Calls Tryz.prog 18 #[.string smpS] w fun e w' => ∃ A c B d, e = .returned (.tuple #[.agg #[.slice A 1 c, .slice B 1 d], .int .i64 0, .int .i64 0]) ∧ PgAt w' A c B d smpP ∧ Below w.heap.size w w' :=
 (readAny (lnsR smpP.rs ++ lnsH smpP.ts) [] smpS (smpP, 0) w h (lines_cln s_ls) (by simp) (by decide +kernel) s_lines s_rd).mono (fun e w' ⟨A, c, B, d, he, hp, hb⟩ => ⟨A, c, B, d, he, hp, hb⟩)
theorem rd03 (w : World) (h : Ld w) : Calls Tryz.prog 18 #[.string t03] w fun e w' => ∃ A c B d, e = .returned (.tuple #[.agg #[.slice A 0 c, .slice B 0 d], .int .i64 3, .int .i64 3]) ∧ Below w.heap.size w w' :=
 (readAny [qu4, thW, set03] [] t03 (⟨[], []⟩, 3) w h (by decide) (by simp) (by decide +kernel) t03_lines rd_03).mono (fun e w' ⟨A, c, B, d, he, hp, hb⟩ => ⟨A, c, B, d, he, hb⟩)
theorem rdCut (w : World) (h : Ld w) : Calls Tryz.prog 18 #[.string tcut] w fun e w' => ∃ A c B d, e = .returned (.tuple #[.agg #[.slice A 0 c, .slice B 0 d], .int .i64 2, .int .i64 3]) ∧ Below w.heap.size w w' :=
 (readAny [qu4] thW tcut (⟨[], []⟩, 2) w h (by decide) (by decide) (by decide +kernel) tcut_lines rd_cut).mono (fun e w' ⟨A, c, B, d, he, hp, hb⟩ => ⟨A, c, B, d, he, hb⟩)
theorem lnRecv (w : World) (h : Ld w) : Calls Tryz.prog 13 #[.agg #[.int .i64 19, .int .i64 1, .int .i64 2, .int .i64 0, .int .i64 1, .int .u64 3]] w fun e w' => e = .returned (.tuple #[.string recvS, .int .i64 0]) ∧ Below w.heap.size w w' :=
 (line_any recvI w h.names h.pow).mono (fun e w' ⟨he, hb⟩ => ⟨by rw [he, rc_ln.1, rc_ln.2], hb⟩)
theorem ln26 (w : World) (h : Ld w) : Calls Tryz.prog 13 #[.agg #[.int .i64 26, .int .i64 0, .int .i64 0, .int .i64 0, .int .i64 0, .int .u64 0]] w fun e w' => e = .returned (.tuple #[.string ⟨#[]⟩, .int .i64 1]) ∧ Below w.heap.size w w' :=
 (line_any op26I w h.names h.pow).mono (fun e w' ⟨he, hb⟩ => ⟨by rw [he, o26_ln.1, o26_ln.2], hb⟩)
theorem pr3 (g : Nat) (w : World) (hl : Lies w g 51 #[.int .i64 3, .int .i64 0, .int .i64 0]) (h : Ld w) : Calls Tryz.prog 11 #[.agg #[.slice (some ⟨g, 0, none⟩) 1 1, .slice none 0 0]] w fun e w' => e = .returned (.tuple #[.string ⟨#[]⟩, .int .i64 1]) ∧ Below w.heap.size w w' :=
 (print10 ring3P (some ⟨g, 0, none⟩) 1 none 0 w ⟨seq_litS (n := 1) (sz := 3) hl rfl (by omega), [], SeqS.of_owns (World.ownsRow_nil w 0 47 1), fun i l hl => by cases hl⟩ h.names h.pow).mono (fun e w' ⟨he, hb⟩ => ⟨by rw [he, r3_prn.1, r3_prn.2], hb⟩)
theorem prSmp (A : Option Addr) (c : Nat) (B : Option Addr) (d : Nat) (w : World) (hp : PgAt w A c B d smpP) (h : Ld w) : Calls Tryz.prog 11 #[.agg #[.slice A 1 c, .slice B 1 d]] w fun e w' => e = .returned (.tuple #[.string smpS, .int .i64 0]) ∧ Below w.heap.size w w' :=
 (print10 smpP A c B d w hp h.names h.pow).mono (fun e w' ⟨he, hb⟩ => ⟨by rw [he, s_prn, s_prnE], hb⟩)
theorem smpOut (w : World) : Calls Tryz.prog 21 #[] w fun e w' => ∃ A c B d, e = .returned (.agg #[.slice A 1 c, .slice B 1 d]) ∧ PgAt w' A c B d smpP ∧ Below w.heap.size w w' := sample10 w
theorem sameSmp (A : Option Addr) (c : Nat) (B : Option Addr) (d : Nat) (A' : Option Addr) (c' : Nat) (B' : Option Addr) (d' : Nat) (w : World) (h : PgAt w A c B d smpP) (k : PgAt w A' c' B' d' smpP) :
  Calls Tryz.prog 20 #[.agg #[.slice A 1 c, .slice B 1 d], .agg #[.slice A' 1 c', .slice B' 1 d']] w fun e w' => e = .returned (.bool true) ∧ Below w.heap.size w w' :=
 (rfSame smpP smpP A c B d A' c' B' d' w h k).mono (fun e w' ⟨he, hb⟩ => ⟨by rw [he, s_same], hb⟩)
set_option maxHeartbeats 16000000 in
set_option maxRecDepth 100000 in
theorem awake_any (w : World) (h : Ld w) : Calls Tryz.prog 9 #[] w fun e w' => e = .returned (.bool true) ∧ Below w.heap.size w w' := by
 have HLD := Lib.hid h
 have HB := Lib.hid (Below.refl w.heap.size w)
 clear h
 go_enter Tryz.func9, Tryz.ntmps9
 go_wp2_with fail
 refine (smpOut w).mono ?_
 rintro e w2 ⟨A, c, B, d, rfl, hp, hb2⟩
 replace HB := Lib.hid (HB.out.trans (hb2.mono HB.out.size))
 have HP := Lib.hid hp
 clear hp hb2
 go_wp2_with fail
 refine (prSmp A c B d w2 HP.out (HLD.out.later HB.out)).mono ?_
 rintro e w3 ⟨rfl, hb3⟩
 replace HB := Lib.hid (HB.out.trans (hb3.mono HB.out.size))
 clear HP hb3
 go_wp2_with fail
 refine (rdSmp w3 (HLD.out.later HB.out)).mono ?_
 rintro e w4 ⟨A1, c1, B1, d1, rfl, hp1, hb4⟩
 go_upto_region 3 with (fail)
 have hbx : Below w4.heap.size w4 (w4.alloc (.cells #[.slice A1 1 c1, .slice B1 1 d1] 25)) := (Below.refl _ _).alloc (Nat.le_refl _) _
 have HX := Lib.hid (Lies.made w4 25 #[.slice A1 1 c1, .slice B1 1 d1])
 have HP1 := Lib.hid (hp1.later hbx)
 replace HB := Lib.hid (HB.out.trans ((then_ hb4 hbx).mono HB.out.size))
 obtain ⟨g4, hg4⟩ : ∃ k, k = w4.heap.size := ⟨_, rfl⟩
 rw [← hg4] at HX
 simp only [← hg4]
 clear hbx hb4 hp1 hg4
 generalize w4.alloc (.cells #[.slice A1 1 c1, .slice B1 1 d1] 25) = w5 at *
 go_wp2_with fail
 refine (rd03 w5 (HLD.out.later HB.out)).mono ?_
 rintro e w6 ⟨A2, c2, B2, d2, rfl, hb6⟩
 go_upto_region 4 with (fail)
 have hbx : Below w6.heap.size w6 (w6.alloc (.cells #[.slice A2 0 c2, .slice B2 0 d2] 25)) := (Below.refl _ _).alloc (Nat.le_refl _) _
 replace HX := Lib.hid (HX.out.below (then_ hb6 hbx) HX.out.lt)
 replace HP1 := Lib.hid (HP1.out.later (then_ hb6 hbx))
 replace HB := Lib.hid (HB.out.trans ((then_ hb6 hbx).mono HB.out.size))
 generalize w6.heap.size = g6 at *
 clear hbx hb6
 generalize w6.alloc (.cells #[.slice A2 0 c2, .slice B2 0 d2] 25) = w7 at *
 go_wp2_with fail
 refine (rdCut w7 (HLD.out.later HB.out)).mono ?_
 rintro e w8 ⟨A3, c3, B3, d3, rfl, hb8⟩
 go_upto_region 5 with (fail)
 have hbx : Below w8.heap.size w8 (w8.alloc (.cells #[.slice A3 0 c3, .slice B3 0 d3] 25)) := (Below.refl _ _).alloc (Nat.le_refl _) _
 replace HX := Lib.hid (HX.out.below (then_ hb8 hbx) HX.out.lt)
 replace HP1 := Lib.hid (HP1.out.later (then_ hb8 hbx))
 replace HB := Lib.hid (HB.out.trans ((then_ hb8 hbx).mono HB.out.size))
 generalize w8.heap.size = g8 at *
 clear hbx hb8
 generalize w8.alloc (.cells #[.slice A3 0 c3, .slice B3 0 d3] 25) = w9 at *
 go_wp2_with fail
 refine (lnRecv w9 (HLD.out.later HB.out)).mono ?_
 rintro e w10 ⟨rfl, hb⟩
 replace HX := Lib.hid (HX.out.below hb HX.out.lt)
 replace HP1 := Lib.hid (HP1.out.later hb)
 replace HB := Lib.hid (HB.out.trans (hb.mono HB.out.size))
 clear hb
 go_wp2_with fail
 refine (ln26 w10 (HLD.out.later HB.out)).mono ?_
 rintro e w11 ⟨rfl, hb⟩
 replace HX := Lib.hid (HX.out.below hb HX.out.lt)
 replace HP1 := Lib.hid (HP1.out.later hb)
 replace HB := Lib.hid (HB.out.trans (hb.mono HB.out.size))
 clear hb
 go_wp2_with fail
 have hbx : Below w11.heap.size w11 (w11.alloc (.cells #[.int .i64 3, .int .i64 0, .int .i64 0] 51)) := (Below.refl _ _).alloc (Nat.le_refl _) _
 have HR3 := Lib.hid (Lies.made w11 51 #[.int .i64 3, .int .i64 0, .int .i64 0])
 replace HX := Lib.hid (HX.out.below hbx HX.out.lt)
 replace HP1 := Lib.hid (HP1.out.later hbx)
 replace HB := Lib.hid (HB.out.trans (hbx.mono HB.out.size))
 clear hbx
 generalize w11.heap.size = g11 at *
 generalize w11.alloc (.cells #[.int .i64 3, .int .i64 0, .int .i64 0] 51) = w12 at *
 refine (pr3 g11 w12 HR3.out (HLD.out.later HB.out)).mono ?_
 rintro e w13 ⟨rfl, hb⟩
 replace HX := Lib.hid (HX.out.below hb HX.out.lt)
 replace HP1 := Lib.hid (HP1.out.later hb)
 replace HB := Lib.hid (HB.out.trans (hb.mono HB.out.size))
 clear hb HR3
 go_upto_region 8 with (fail)
 refine wp_region_held_drew (S := fun q => Lies q g4 25 #[.slice A1 1 c1, .slice B1 1 d1] ∧ PgAt q A1 c1 B1 d1 smpP ∧ Below w.heap.size w q) (by kernel_rfl) ⟨HX.out.drew, HP1.out.later (below_drewN (Below.refl _ _) 1), below_drewN HB.out 1⟩ (fun hHeld => ?_)
 clear HX HP1 HB HLD
 generalize w13.drew = w14 at *
 try simp only [Act.put, List.setIfInBounds_toArray, List.set_cons_zero, List.set_cons_succ]
 refine wpAnyH_take (i := 0) (v := (.string smpS)) rfl (by kernel_rfl) (by kernel_rfl) (by kernel_rfl) (fun _ _ _ h => h) (Or.inl ⟨by rfl, fun w h => by (simp only [List.getElem_toArray, List.getElem_cons_succ, List.getElem_cons_zero]; clear h; go_simp)⟩) (by assumption) ?_
 simp only [Act.put, List.getElem_toArray, List.getElem_cons_succ, List.getElem_cons_zero, List.setIfInBounds_toArray, List.set_cons_zero, List.set_cons_succ]
 refine wpAnyH_take (i := 1) (v := (.bool true)) rfl (by kernel_rfl) (by kernel_rfl) (by kernel_rfl) (fun _ _ _ h => h) (Or.inl ⟨by rfl, fun w h => by (simp only [List.getElem_toArray, List.getElem_cons_succ, List.getElem_cons_zero]; clear h; go_simp)⟩) (by assumption) ?_
 simp only [Act.put, List.getElem_toArray, List.getElem_cons_succ, List.getElem_cons_zero, List.setIfInBounds_toArray, List.set_cons_zero, List.set_cons_succ]
 refine wpAnyH_take (i := 2) (v := (.bool true)) rfl (by kernel_rfl) (by kernel_rfl) (by kernel_rfl) (fun _ _ _ h => h) (Or.inl ⟨by rfl, fun w h => by (simp only [List.getElem_toArray, List.getElem_cons_succ, List.getElem_cons_zero]; clear h; go_simp)⟩) (by assumption) ?_
 simp only [Act.put, List.getElem_toArray, List.getElem_cons_succ, List.getElem_cons_zero, List.setIfInBounds_toArray, List.set_cons_zero, List.set_cons_succ]
 refine wpAnyH_take (i := 3) (v := (.int .i64 0)) rfl (by kernel_rfl) (by kernel_rfl) (by kernel_rfl) (fun _ _ _ h => h) (Or.inl ⟨by rfl, fun w h => by (simp only [List.getElem_toArray, List.getElem_cons_succ, List.getElem_cons_zero]; clear h; go_simp)⟩) (by assumption) ?_
 simp only [Act.put, List.getElem_toArray, List.getElem_cons_succ, List.getElem_cons_zero, List.setIfInBounds_toArray, List.set_cons_zero, List.set_cons_succ]
 refine wpAnyH_take (i := 4) (v := (.bool true)) rfl (by kernel_rfl) (by kernel_rfl) (by kernel_rfl) (fun _ _ _ h => h) (Or.inl ⟨by rfl, fun w h => by (simp only [List.getElem_toArray, List.getElem_cons_succ, List.getElem_cons_zero]; clear h; go_simp)⟩) (by assumption) ?_
 simp only [Act.put, List.getElem_toArray, List.getElem_cons_succ, List.getElem_cons_zero, List.setIfInBounds_toArray, List.set_cons_zero, List.set_cons_succ]
 refine wpAnyH_take (i := 5) (v := (.bool true)) rfl (by kernel_rfl) (by kernel_rfl) (by kernel_rfl) (fun _ _ _ h => h) (Or.inl ⟨by rfl, fun w h => by (simp only [List.getElem_toArray, List.getElem_cons_succ, List.getElem_cons_zero]; clear h; go_simp)⟩) (by assumption) ?_
 simp only [Act.put, List.getElem_toArray, List.getElem_cons_succ, List.getElem_cons_zero, List.setIfInBounds_toArray, List.set_cons_zero, List.set_cons_succ]
 refine wpAnyH_take (i := 6) (v := (.bool true)) rfl (by kernel_rfl) (by kernel_rfl) (by kernel_rfl) (fun _ _ _ h => h) (Or.inl ⟨by rfl, fun w h => by (simp only [List.getElem_toArray, List.getElem_cons_succ, List.getElem_cons_zero]; clear h; go_simp)⟩) (by assumption) ?_
 simp only [Act.put, List.getElem_toArray, List.getElem_cons_succ, List.getElem_cons_zero, List.setIfInBounds_toArray, List.set_cons_zero, List.set_cons_succ]
 refine wpAnyH_take (i := 7) (v := (.agg #[.slice A1 1 c1, .slice B1 1 d1])) rfl (by kernel_rfl) (by kernel_rfl) (by kernel_rfl) (fun _ _ _ h => h) (Or.inl ⟨by rfl, fun w h => by (simp only [List.getElem_toArray, List.getElem_cons_succ, List.getElem_cons_zero]; have h0 := h.1.cell 0; have h1 := h.1.cell 1; have h2 := h.1.lt; simp at h0 h1; clear h; go_simp)⟩) (by assumption) ?_
 simp only [Act.put, List.getElem_toArray, List.getElem_cons_succ, List.getElem_cons_zero, List.setIfInBounds_toArray, List.set_cons_zero, List.set_cons_succ]
 refine wpAnyH_ready (rs := [8]) (by kernel_rfl) (by simp) ?_
 refine AllReadyH.cons rfl (fun K hK => ?_) AllReadyH.nil
 rw [if_pos (by rfl)]
 go_wp2_with fail
 refine (smpOut w14).mono ?_
 rintro e w15 ⟨A9, c9, B9, d9, rfl, hp9, hb9⟩
 dsimp only
 refine hK.out _ _ ⟨hHeld.1.below hb9 hHeld.1.lt, hHeld.2.1.later hb9, hHeld.2.2.trans (hb9.mono hHeld.2.2.size)⟩ (fun hHeld1 => ?_)
 clear hK K hHeld hb9
 have hHeld := hHeld1
 clear hHeld1
 try simp only [Act.put, List.setIfInBounds_toArray, List.set_cons_zero, List.set_cons_succ]
 refine wpAnyH_ready (rs := [9]) (by kernel_rfl) (by simp) ?_
 refine AllReadyH.cons rfl (fun K hK => ?_) AllReadyH.nil
 rw [if_pos (by rfl)]
 go_wp2_with fail
 refine (sameSmp A1 c1 B1 d1 A9 c9 B9 d9 w15 hHeld.2.1 hp9).mono ?_
 rintro e w16 ⟨rfl, hb9⟩
 dsimp only
 refine hK.out _ _ ⟨hHeld.1.below hb9 hHeld.1.lt, hHeld.2.1.later hb9, hHeld.2.2.trans (hb9.mono hHeld.2.2.size)⟩ (fun hHeld1 => ?_)
 clear hK K hHeld hb9 hp9
 have hHeld := hHeld1
 clear hHeld1
 try simp only [Act.put, List.setIfInBounds_toArray, List.set_cons_zero, List.set_cons_succ]
 refine wpAnyH_take (i := 10) (v := (.bool true)) rfl (by kernel_rfl) (by kernel_rfl) (by kernel_rfl) (fun _ _ _ h => h) (Or.inl ⟨by rfl, fun w h => by (simp only [List.getElem_toArray, List.getElem_cons_succ, List.getElem_cons_zero]; clear h; go_simp)⟩) (by assumption) ?_
 simp only [Act.put, List.getElem_toArray, List.getElem_cons_succ, List.getElem_cons_zero, List.setIfInBounds_toArray, List.set_cons_zero, List.set_cons_succ]
 refine wpAnyH_take (i := 11) (v := (.bool true)) rfl (by kernel_rfl) (by kernel_rfl) (by kernel_rfl) (fun _ _ _ h => h) (Or.inl ⟨by rfl, fun w h => by (simp only [List.getElem_toArray, List.getElem_cons_succ, List.getElem_cons_zero]; clear h; go_simp)⟩) (by assumption) ?_
 simp only [Act.put, List.getElem_toArray, List.getElem_cons_succ, List.getElem_cons_zero, List.setIfInBounds_toArray, List.set_cons_zero, List.set_cons_succ]
 refine wpAnyH_take (i := 12) (v := (.int .i64 0)) rfl (by kernel_rfl) (by kernel_rfl) (by kernel_rfl) (fun _ _ _ h => h) (Or.inl ⟨by rfl, fun w h => by (simp only [List.getElem_toArray, List.getElem_cons_succ, List.getElem_cons_zero]; clear h; go_simp)⟩) (by assumption) ?_
 simp only [Act.put, List.getElem_toArray, List.getElem_cons_succ, List.getElem_cons_zero, List.setIfInBounds_toArray, List.set_cons_zero, List.set_cons_succ]
 refine wpAnyH_take (i := 13) (v := (.bool true)) rfl (by kernel_rfl) (by kernel_rfl) (by kernel_rfl) (fun _ _ _ h => h) (Or.inl ⟨by rfl, fun w h => by (simp only [List.getElem_toArray, List.getElem_cons_succ, List.getElem_cons_zero]; clear h; go_simp)⟩) (by assumption) ?_
 simp only [Act.put, List.getElem_toArray, List.getElem_cons_succ, List.getElem_cons_zero, List.setIfInBounds_toArray, List.set_cons_zero, List.set_cons_succ]
 refine wpAnyH_take (i := 14) (v := (.bool true)) rfl (by kernel_rfl) (by kernel_rfl) (by kernel_rfl) (fun _ _ _ h => h) (Or.inl ⟨by rfl, fun w h => by (simp only [List.getElem_toArray, List.getElem_cons_succ, List.getElem_cons_zero]; clear h; go_simp)⟩) (by assumption) ?_
 simp only [Act.put, List.getElem_toArray, List.getElem_cons_succ, List.getElem_cons_zero, List.setIfInBounds_toArray, List.set_cons_zero, List.set_cons_succ]
 refine wpAnyH_take (i := 15) (v := (.bool true)) rfl (by kernel_rfl) (by kernel_rfl) (by kernel_rfl) (fun _ _ _ h => h) (Or.inl ⟨by rfl, fun w h => by (simp only [List.getElem_toArray, List.getElem_cons_succ, List.getElem_cons_zero]; clear h; go_simp)⟩) (by assumption) ?_
 simp only [Act.put, List.getElem_toArray, List.getElem_cons_succ, List.getElem_cons_zero, List.setIfInBounds_toArray, List.set_cons_zero, List.set_cons_succ]
 refine wpAnyH_take (i := 16) (v := (.int .i64 0)) rfl (by kernel_rfl) (by kernel_rfl) (by kernel_rfl) (fun _ _ _ h => h) (Or.inl ⟨by rfl, fun w h => by (simp only [List.getElem_toArray, List.getElem_cons_succ, List.getElem_cons_zero]; clear h; go_simp)⟩) (by assumption) ?_
 simp only [Act.put, List.getElem_toArray, List.getElem_cons_succ, List.getElem_cons_zero, List.setIfInBounds_toArray, List.set_cons_zero, List.set_cons_succ]
 refine wpAnyH_take (i := 17) (v := (.bool true)) rfl (by kernel_rfl) (by kernel_rfl) (by kernel_rfl) (fun _ _ _ h => h) (Or.inl ⟨by rfl, fun w h => by (simp only [List.getElem_toArray, List.getElem_cons_succ, List.getElem_cons_zero]; clear h; go_simp)⟩) (by assumption) ?_
 simp only [Act.put, List.getElem_toArray, List.getElem_cons_succ, List.getElem_cons_zero, List.setIfInBounds_toArray, List.set_cons_zero, List.set_cons_succ]
 refine wpAnyH_take (i := 18) (v := (.bool true)) rfl (by kernel_rfl) (by kernel_rfl) (by kernel_rfl) (fun _ _ _ h => h) (Or.inl ⟨by rfl, fun w h => by (simp only [List.getElem_toArray, List.getElem_cons_succ, List.getElem_cons_zero]; clear h; go_simp)⟩) (by assumption) ?_
 simp only [Act.put, List.getElem_toArray, List.getElem_cons_succ, List.getElem_cons_zero, List.setIfInBounds_toArray, List.set_cons_zero, List.set_cons_succ]
 refine wpAnyH_take (i := 19) (v := (.bool true)) rfl (by kernel_rfl) (by kernel_rfl) (by kernel_rfl) (fun _ _ _ h => h) (Or.inl ⟨by rfl, fun w h => by (simp only [List.getElem_toArray, List.getElem_cons_succ, List.getElem_cons_zero]; clear h; go_simp)⟩) (by assumption) ?_
 simp only [Act.put, List.getElem_toArray, List.getElem_cons_succ, List.getElem_cons_zero, List.setIfInBounds_toArray, List.set_cons_zero, List.set_cons_succ]
 refine wpAnyH_take (i := 20) (v := (.int .i64 3)) rfl (by kernel_rfl) (by kernel_rfl) (by kernel_rfl) (fun _ _ _ h => h) (Or.inl ⟨by rfl, fun w h => by (simp only [List.getElem_toArray, List.getElem_cons_succ, List.getElem_cons_zero]; clear h; go_simp)⟩) (by assumption) ?_
 simp only [Act.put, List.getElem_toArray, List.getElem_cons_succ, List.getElem_cons_zero, List.setIfInBounds_toArray, List.set_cons_zero, List.set_cons_succ]
 refine wpAnyH_take (i := 21) (v := (.bool true)) rfl (by kernel_rfl) (by kernel_rfl) (by kernel_rfl) (fun _ _ _ h => h) (Or.inl ⟨by rfl, fun w h => by (simp only [List.getElem_toArray, List.getElem_cons_succ, List.getElem_cons_zero]; clear h; go_simp)⟩) (by assumption) ?_
 simp only [Act.put, List.getElem_toArray, List.getElem_cons_succ, List.getElem_cons_zero, List.setIfInBounds_toArray, List.set_cons_zero, List.set_cons_succ]
 refine wpAnyH_take (i := 22) (v := (.bool true)) rfl (by kernel_rfl) (by kernel_rfl) (by kernel_rfl) (fun _ _ _ h => h) (Or.inl ⟨by rfl, fun w h => by (simp only [List.getElem_toArray, List.getElem_cons_succ, List.getElem_cons_zero]; clear h; go_simp)⟩) (by assumption) ?_
 simp only [Act.put, List.getElem_toArray, List.getElem_cons_succ, List.getElem_cons_zero, List.setIfInBounds_toArray, List.set_cons_zero, List.set_cons_succ]
 refine wpAnyH_take (i := 23) (v := (.bool true)) rfl (by kernel_rfl) (by kernel_rfl) (by kernel_rfl) (fun _ _ _ h => h) (Or.inl ⟨by rfl, fun w h => by (simp only [List.getElem_toArray, List.getElem_cons_succ, List.getElem_cons_zero]; clear h; go_simp)⟩) (by assumption) ?_
 simp only [Act.put, List.getElem_toArray, List.getElem_cons_succ, List.getElem_cons_zero, List.setIfInBounds_toArray, List.set_cons_zero, List.set_cons_succ]
 refine wpAnyH_take (i := 24) (v := (.int .i64 3)) rfl (by kernel_rfl) (by kernel_rfl) (by kernel_rfl) (fun _ _ _ h => h) (Or.inl ⟨by rfl, fun w h => by (simp only [List.getElem_toArray, List.getElem_cons_succ, List.getElem_cons_zero]; clear h; go_simp)⟩) (by assumption) ?_
 simp only [Act.put, List.getElem_toArray, List.getElem_cons_succ, List.getElem_cons_zero, List.setIfInBounds_toArray, List.set_cons_zero, List.set_cons_succ]
 refine wpAnyH_take (i := 25) (v := (.bool true)) rfl (by kernel_rfl) (by kernel_rfl) (by kernel_rfl) (fun _ _ _ h => h) (Or.inl ⟨by rfl, fun w h => by (simp only [List.getElem_toArray, List.getElem_cons_succ, List.getElem_cons_zero]; clear h; go_simp)⟩) (by assumption) ?_
 simp only [Act.put, List.getElem_toArray, List.getElem_cons_succ, List.getElem_cons_zero, List.setIfInBounds_toArray, List.set_cons_zero, List.set_cons_succ]
 refine wpAnyH_take (i := 26) (v := (.bool true)) rfl (by kernel_rfl) (by kernel_rfl) (by kernel_rfl) (fun _ _ _ h => h) (Or.inl ⟨by rfl, fun w h => by (simp only [List.getElem_toArray, List.getElem_cons_succ, List.getElem_cons_zero]; clear h; go_simp)⟩) (by assumption) ?_
 simp only [Act.put, List.getElem_toArray, List.getElem_cons_succ, List.getElem_cons_zero, List.setIfInBounds_toArray, List.set_cons_zero, List.set_cons_succ]
 refine wpAnyH_take (i := 27) (v := (.bool true)) rfl (by kernel_rfl) (by kernel_rfl) (by kernel_rfl) (fun _ _ _ h => h) (Or.inl ⟨by rfl, fun w h => by (simp only [List.getElem_toArray, List.getElem_cons_succ, List.getElem_cons_zero]; clear h; go_simp)⟩) (by assumption) ?_
 simp only [Act.put, List.getElem_toArray, List.getElem_cons_succ, List.getElem_cons_zero, List.setIfInBounds_toArray, List.set_cons_zero, List.set_cons_succ]
 refine wpAnyH_take (i := 28) (v := (.int .i64 2)) rfl (by kernel_rfl) (by kernel_rfl) (by kernel_rfl) (fun _ _ _ h => h) (Or.inl ⟨by rfl, fun w h => by (simp only [List.getElem_toArray, List.getElem_cons_succ, List.getElem_cons_zero]; clear h; go_simp)⟩) (by assumption) ?_
 simp only [Act.put, List.getElem_toArray, List.getElem_cons_succ, List.getElem_cons_zero, List.setIfInBounds_toArray, List.set_cons_zero, List.set_cons_succ]
 refine wpAnyH_take (i := 29) (v := (.bool true)) rfl (by kernel_rfl) (by kernel_rfl) (by kernel_rfl) (fun _ _ _ h => h) (Or.inl ⟨by rfl, fun w h => by (simp only [List.getElem_toArray, List.getElem_cons_succ, List.getElem_cons_zero]; clear h; go_simp)⟩) (by assumption) ?_
 simp only [Act.put, List.getElem_toArray, List.getElem_cons_succ, List.getElem_cons_zero, List.setIfInBounds_toArray, List.set_cons_zero, List.set_cons_succ]
 refine wpAnyH_take (i := 30) (v := (.bool true)) rfl (by kernel_rfl) (by kernel_rfl) (by kernel_rfl) (fun _ _ _ h => h) (Or.inl ⟨by rfl, fun w h => by (simp only [List.getElem_toArray, List.getElem_cons_succ, List.getElem_cons_zero]; clear h; go_simp)⟩) (by assumption) ?_
 simp only [Act.put, List.getElem_toArray, List.getElem_cons_succ, List.getElem_cons_zero, List.setIfInBounds_toArray, List.set_cons_zero, List.set_cons_succ]
 refine wpAnyH_take (i := 31) (v := (.bool true)) rfl (by kernel_rfl) (by kernel_rfl) (by kernel_rfl) (fun _ _ _ h => h) (Or.inl ⟨by rfl, fun w h => by (simp only [List.getElem_toArray, List.getElem_cons_succ, List.getElem_cons_zero]; clear h; go_simp)⟩) (by assumption) ?_
 simp only [Act.put, List.getElem_toArray, List.getElem_cons_succ, List.getElem_cons_zero, List.setIfInBounds_toArray, List.set_cons_zero, List.set_cons_succ]
 refine wpAnyH_take (i := 32) (v := (.int .i64 3)) rfl (by kernel_rfl) (by kernel_rfl) (by kernel_rfl) (fun _ _ _ h => h) (Or.inl ⟨by rfl, fun w h => by (simp only [List.getElem_toArray, List.getElem_cons_succ, List.getElem_cons_zero]; clear h; go_simp)⟩) (by assumption) ?_
 simp only [Act.put, List.getElem_toArray, List.getElem_cons_succ, List.getElem_cons_zero, List.setIfInBounds_toArray, List.set_cons_zero, List.set_cons_succ]
 refine wpAnyH_take (i := 33) (v := (.bool true)) rfl (by kernel_rfl) (by kernel_rfl) (by kernel_rfl) (fun _ _ _ h => h) (Or.inl ⟨by rfl, fun w h => by (simp only [List.getElem_toArray, List.getElem_cons_succ, List.getElem_cons_zero]; clear h; go_simp)⟩) (by assumption) ?_
 simp only [Act.put, List.getElem_toArray, List.getElem_cons_succ, List.getElem_cons_zero, List.setIfInBounds_toArray, List.set_cons_zero, List.set_cons_succ]
 refine wpAnyH_take (i := 34) (v := (.bool true)) rfl (by kernel_rfl) (by kernel_rfl) (by kernel_rfl) (fun _ _ _ h => h) (Or.inl ⟨by rfl, fun w h => by (simp only [List.getElem_toArray, List.getElem_cons_succ, List.getElem_cons_zero]; clear h; go_simp)⟩) (by assumption) ?_
 simp only [Act.put, List.getElem_toArray, List.getElem_cons_succ, List.getElem_cons_zero, List.setIfInBounds_toArray, List.set_cons_zero, List.set_cons_succ]
 refine wpAnyH_take (i := 35) (v := (.bool true)) rfl (by kernel_rfl) (by kernel_rfl) (by kernel_rfl) (fun _ _ _ h => h) (Or.inl ⟨by rfl, fun w h => by (simp only [List.getElem_toArray, List.getElem_cons_succ, List.getElem_cons_zero]; clear h; go_simp)⟩) (by assumption) ?_
 simp only [Act.put, List.getElem_toArray, List.getElem_cons_succ, List.getElem_cons_zero, List.setIfInBounds_toArray, List.set_cons_zero, List.set_cons_succ]
 refine wpAnyH_take (i := 36) (v := (.string recvS)) rfl (by kernel_rfl) (by kernel_rfl) (by kernel_rfl) (fun _ _ _ h => h) (Or.inl ⟨by rfl, fun w h => by (simp only [List.getElem_toArray, List.getElem_cons_succ, List.getElem_cons_zero]; clear h; go_simp)⟩) (by assumption) ?_
 simp only [Act.put, List.getElem_toArray, List.getElem_cons_succ, List.getElem_cons_zero, List.setIfInBounds_toArray, List.set_cons_zero, List.set_cons_succ]
 refine wpAnyH_take (i := 37) (v := (.bool true)) rfl (by kernel_rfl) (by kernel_rfl) (by kernel_rfl) (fun _ _ _ h => h) (Or.inl ⟨by rfl, fun w h => by (simp only [List.getElem_toArray, List.getElem_cons_succ, List.getElem_cons_zero]; clear h; go_simp)⟩) (by assumption) ?_
 simp only [Act.put, List.getElem_toArray, List.getElem_cons_succ, List.getElem_cons_zero, List.setIfInBounds_toArray, List.set_cons_zero, List.set_cons_succ]
 refine wpAnyH_take (i := 38) (v := (.bool true)) rfl (by kernel_rfl) (by kernel_rfl) (by kernel_rfl) (fun _ _ _ h => h) (Or.inl ⟨by rfl, fun w h => by (simp only [List.getElem_toArray, List.getElem_cons_succ, List.getElem_cons_zero]; clear h; go_simp)⟩) (by assumption) ?_
 simp only [Act.put, List.getElem_toArray, List.getElem_cons_succ, List.getElem_cons_zero, List.setIfInBounds_toArray, List.set_cons_zero, List.set_cons_succ]
 refine wpAnyH_take (i := 39) (v := (.bool true)) rfl (by kernel_rfl) (by kernel_rfl) (by kernel_rfl) (fun _ _ _ h => h) (Or.inl ⟨by rfl, fun w h => by (simp only [List.getElem_toArray, List.getElem_cons_succ, List.getElem_cons_zero]; clear h; go_simp)⟩) (by assumption) ?_
 simp only [Act.put, List.getElem_toArray, List.getElem_cons_succ, List.getElem_cons_zero, List.setIfInBounds_toArray, List.set_cons_zero, List.set_cons_succ]
 refine wpAnyH_take (i := 40) (v := (.int .i64 0)) rfl (by kernel_rfl) (by kernel_rfl) (by kernel_rfl) (fun _ _ _ h => h) (Or.inl ⟨by rfl, fun w h => by (simp only [List.getElem_toArray, List.getElem_cons_succ, List.getElem_cons_zero]; clear h; go_simp)⟩) (by assumption) ?_
 simp only [Act.put, List.getElem_toArray, List.getElem_cons_succ, List.getElem_cons_zero, List.setIfInBounds_toArray, List.set_cons_zero, List.set_cons_succ]
 refine wpAnyH_take (i := 41) (v := (.bool true)) rfl (by kernel_rfl) (by kernel_rfl) (by kernel_rfl) (fun _ _ _ h => h) (Or.inl ⟨by rfl, fun w h => by (simp only [List.getElem_toArray, List.getElem_cons_succ, List.getElem_cons_zero]; clear h; go_simp)⟩) (by assumption) ?_
 simp only [Act.put, List.getElem_toArray, List.getElem_cons_succ, List.getElem_cons_zero, List.setIfInBounds_toArray, List.set_cons_zero, List.set_cons_succ]
 refine wpAnyH_take (i := 42) (v := (.bool true)) rfl (by kernel_rfl) (by kernel_rfl) (by kernel_rfl) (fun _ _ _ h => h) (Or.inl ⟨by rfl, fun w h => by (simp only [List.getElem_toArray, List.getElem_cons_succ, List.getElem_cons_zero]; clear h; go_simp)⟩) (by assumption) ?_
 simp only [Act.put, List.getElem_toArray, List.getElem_cons_succ, List.getElem_cons_zero, List.setIfInBounds_toArray, List.set_cons_zero, List.set_cons_succ]
 refine wpAnyH_take (i := 43) (v := (.bool true)) rfl (by kernel_rfl) (by kernel_rfl) (by kernel_rfl) (fun _ _ _ h => h) (Or.inl ⟨by rfl, fun w h => by (simp only [List.getElem_toArray, List.getElem_cons_succ, List.getElem_cons_zero]; clear h; go_simp)⟩) (by assumption) ?_
 simp only [Act.put, List.getElem_toArray, List.getElem_cons_succ, List.getElem_cons_zero, List.setIfInBounds_toArray, List.set_cons_zero, List.set_cons_succ]
 refine wpAnyH_take (i := 44) (v := (.int .i64 1)) rfl (by kernel_rfl) (by kernel_rfl) (by kernel_rfl) (fun _ _ _ h => h) (Or.inl ⟨by rfl, fun w h => by (simp only [List.getElem_toArray, List.getElem_cons_succ, List.getElem_cons_zero]; clear h; go_simp)⟩) (by assumption) ?_
 simp only [Act.put, List.getElem_toArray, List.getElem_cons_succ, List.getElem_cons_zero, List.setIfInBounds_toArray, List.set_cons_zero, List.set_cons_succ]
 refine wpAnyH_take (i := 45) (v := (.bool true)) rfl (by kernel_rfl) (by kernel_rfl) (by kernel_rfl) (fun _ _ _ h => h) (Or.inl ⟨by rfl, fun w h => by (simp only [List.getElem_toArray, List.getElem_cons_succ, List.getElem_cons_zero]; clear h; go_simp)⟩) (by assumption) ?_
 simp only [Act.put, List.getElem_toArray, List.getElem_cons_succ, List.getElem_cons_zero, List.setIfInBounds_toArray, List.set_cons_zero, List.set_cons_succ]
 refine wpAnyH_take (i := 46) (v := (.bool true)) rfl (by kernel_rfl) (by kernel_rfl) (by kernel_rfl) (fun _ _ _ h => h) (Or.inl ⟨by rfl, fun w h => by (simp only [List.getElem_toArray, List.getElem_cons_succ, List.getElem_cons_zero]; clear h; go_simp)⟩) (by assumption) ?_
 simp only [Act.put, List.getElem_toArray, List.getElem_cons_succ, List.getElem_cons_zero, List.setIfInBounds_toArray, List.set_cons_zero, List.set_cons_succ]
 refine wpAnyH_take (i := 47) (v := (.bool true)) rfl (by kernel_rfl) (by kernel_rfl) (by kernel_rfl) (fun _ _ _ h => h) (Or.inl ⟨by rfl, fun w h => by (simp only [List.getElem_toArray, List.getElem_cons_succ, List.getElem_cons_zero]; clear h; go_simp)⟩) (by assumption) ?_
 simp only [Act.put, List.getElem_toArray, List.getElem_cons_succ, List.getElem_cons_zero, List.setIfInBounds_toArray, List.set_cons_zero, List.set_cons_succ]
 refine wpAnyH_take (i := 48) (v := (.int .i64 1)) rfl (by kernel_rfl) (by kernel_rfl) (by kernel_rfl) (fun _ _ _ h => h) (Or.inl ⟨by rfl, fun w h => by (simp only [List.getElem_toArray, List.getElem_cons_succ, List.getElem_cons_zero]; clear h; go_simp)⟩) (by assumption) ?_
 simp only [Act.put, List.getElem_toArray, List.getElem_cons_succ, List.getElem_cons_zero, List.setIfInBounds_toArray, List.set_cons_zero, List.set_cons_succ]
 refine wpAnyH_take (i := 49) (v := (.bool true)) rfl (by kernel_rfl) (by kernel_rfl) (by kernel_rfl) (fun _ _ _ h => h) (Or.inl ⟨by rfl, fun w h => by (simp only [List.getElem_toArray, List.getElem_cons_succ, List.getElem_cons_zero]; clear h; go_simp)⟩) (by assumption) ?_
 simp only [Act.put, List.getElem_toArray, List.getElem_cons_succ, List.getElem_cons_zero, List.setIfInBounds_toArray, List.set_cons_zero, List.set_cons_succ]
 refine wpAnyH_take (i := 50) (v := (.bool true)) rfl (by kernel_rfl) (by kernel_rfl) (by kernel_rfl) (fun _ _ _ h => h) (Or.inl ⟨by rfl, fun w h => by (simp only [List.getElem_toArray, List.getElem_cons_succ, List.getElem_cons_zero]; clear h; go_simp)⟩) (by assumption) ?_
 simp only [Act.put, List.getElem_toArray, List.getElem_cons_succ, List.getElem_cons_zero, List.setIfInBounds_toArray, List.set_cons_zero, List.set_cons_succ]
 refine wpAnyH_take (i := 51) (v := (.bool true)) rfl (by kernel_rfl) (by kernel_rfl) (by kernel_rfl) (fun _ _ _ h => h) (Or.inl ⟨by rfl, fun w h => by (simp only [List.getElem_toArray, List.getElem_cons_succ, List.getElem_cons_zero]; clear h; go_simp)⟩) (by assumption) ?_
 simp only [Act.put, List.getElem_toArray, List.getElem_cons_succ, List.getElem_cons_zero, List.setIfInBounds_toArray, List.set_cons_zero, List.set_cons_succ]
 refine wpAnyH_done (by kernel_rfl) ?_ _
 go_wp2_with fail
 go_ret
 exact ⟨rfl, hHeld.2.2⟩
theorem prn_yes {p : Pg} (h : lsB p = true) : prnT p = textB (prL p) ∧ prnE p = 0 := by
 unfold prnT prnE
 rw [h]
 exact ⟨if_pos rfl, if_pos rfl⟩
theorem same_self (p : Pg) : sameB p p = true := decide_eq_true ⟨rfl, rfl⟩
theorem rdZ_bad : ∀ (l : List (List UInt8)) (p : Pg) (t : List UInt8) (n : Nat), 0 < n → (rdZ p l t n).2 ≠ 0 → (rdZ p l t n).1 = ⟨[], []⟩
 | [], p, t, n, hn, h => by
  by_cases ht : t = []
  ·subst ht
   rw [rdZ_end] at h
   exact absurd rfl h
  ·rw [rdZ_cut ht]
 | b :: l, p, t, n, hn, h => by
  cases hb : (adL p b).2 with
  | true =>
   rw [rdZ_go (p' := p) hb] at h ⊢
   exact rdZ_bad l _ t (n + 1) (by omega) h
  | false => rw [rdZ_no hb]
theorem rdZ_good : ∀ (l : List (List UInt8)) (p : Pg) (t : List UInt8) (n : Nat), 0 < n → (rdZ p l t n).2 = 0 → t = []
 | [], p, t, n, hn, h => by
  by_cases ht : t = []
  ·exact ht
  ·rw [rdZ_cut ht] at h
   exact absurd h (by simp only; omega)
 | b :: l, p, t, n, hn, h => by
  cases hb : (adL p b).2 with
  | true =>
   rw [rdZ_go (p' := p) hb] at h
   exact rdZ_good l _ t (n + 1) (by omega) h
  | false =>
   rw [rdZ_no hb] at h
   exact absurd h (by simp only; omega)
theorem read_text {l : List (List UInt8)} {t : List UInt8} (h : (rdZ ⟨[], []⟩ l t 1).2 = 0) : lsB (rdZ ⟨[], []⟩ l t 1).1 = true ∧ prL (rdZ ⟨[], []⟩ l t 1).1 = lnsT l ++ t := by
 have ht := rdZ_good l _ t 1 (by omega) h
 subst ht
 rw [rdZ_nil] at h ⊢
 obtain ⟨h1, h2⟩ := rdA_text l ⟨[], []⟩ (rdA ⟨[], []⟩ l 1).1 1 (by omega) (by decide +kernel) (Prod.ext rfl h)
 refine ⟨h1, h2.trans ?_⟩
 rw [List.append_nil]
 show prL ⟨[], []⟩ ++ lnsT l = lnsT l
 rfl
theorem rfAny (l : List (List UInt8)) (t : List UInt8) (T : ByteArray) (r : Pg × Nat) (w : World) (hl : ∀ b ∈ l, (10 : UInt8) ∉ b) (ht : (10 : UInt8) ∉ t) (hlen : (lnsT l ++ t).length ≤ 9000000) (hT : textB (lnsT l ++ t) = T) (hr : rdZ ⟨[], []⟩ l t 1 = r) :
  Calls Tryz.prog 19 #[.string T] w (RfPost r w) := by
 subst hT
 subst hr
 exact rfRead10 l t w hl ht hlen
theorem text_of (s : ByteArray) : s = textB s.data.toList := by apply eq_of_data; simp [textB]
set_option maxHeartbeats 8000000 in
set_option maxRecDepth 100000 in
theorem reads_walk (s : ByteArray) (W : World) (hs : s.size ≤ maxLen) (hN : Ld W) :
  Calls Tryz.prog 4 #[.string s] W fun e w' => e = .returned (.bool true) ∧ Below W.heap.size W w' := by
 have HB := Lib.hid (Below.refl W.heap.size W)
 have HN := Lib.hid hN
 clear hN hs
 go_enter Tryz.func4, Tryz.ntmps4
 go_wp2_with fail
 refine (awake_any _ HN.out).mono ?_
 rintro e w2 ⟨rfl, hbm⟩
 replace HB := Lib.hid (HB.out.trans (hbm.mono HB.out.size))
 clear hbm
 by_cases hlen : 1500 < s.size
 ·have e1 : decide (1500 < s.size) = true := decide_eq_true hlen
  have e2 : decide ((1500 : Int) < (s.size : Int)) = true := decide_eq_true (by omega)
  go_wp2_with fail
  refine (awake_any _ (HN.out.later HB.out)).mono ?_
  rintro e wz ⟨rfl, hbz⟩
  have hbz := HB.out.trans (hbz.mono HB.out.size)
  go_wp2
  go_ret
  exact ⟨rfl, hbz⟩
 have e1 : decide (1500 < s.size) = false := decide_eq_false hlen
 have e2 : decide ((1500 : Int) < (s.size : Int)) = false := decide_eq_false (by omega)
 obtain ⟨l, t, hbs, hl, ht⟩ := text_lines s.data.toList
 have hT : textB (lnsT l ++ t) = s := by rw [← hbs]; exact (text_of s).symm
 have hle : (lnsT l ++ t).length ≤ 9000000 := by
  rw [← hbs]
  have : s.data.toList.length = s.size := by rw [Array.length_toList]; rfl
  omega
 obtain ⟨R, hR⟩ : ∃ R, rdZ ⟨[], []⟩ l t 1 = R := ⟨_, rfl⟩
 have HRD := Lib.hid (fun w (hw : Ld w) => readAny l t s R w hw hl ht hle hT hR)
 have HRF := Lib.hid (fun w => rfAny l t s R w hl ht hle hT hR)
 have HBAD : Hid (R.2 ≠ 0 → R.1 = ⟨[], []⟩) := by rw [← hR]; exact rdZ_bad l _ t 1 (by omega)
 have HGOOD : Hid (R.2 = 0 → lsB R.1 = true ∧ textB (prL R.1) = s) := by
  intro h
  rw [← hR] at h ⊢
  obtain ⟨h1, h2⟩ := read_text h
  exact ⟨h1, by rw [h2]; exact hT⟩
 clear hR hT hle hbs hl ht
 obtain ⟨p, n⟩ := R
 go_wp2_with fail
 refine (HRD.out _ (HN.out.later HB.out)).mono ?_
 rintro e w3 ⟨A, c, B, d, rfl, hp, hbm⟩
 dsimp only at hp
 dsimp only
 obtain ⟨ec, hec⟩ : ∃ ec : Int, (if n = 0 then (0 : Int) else 3) = ec := ⟨_, rfl⟩
 have HEC := Lib.hid hec
 rw [hec]
 clear hec
 go_upto_region 4 with (fail)
 have hbx : Below w3.heap.size w3 (w3.alloc (.cells (pgC A c B d p) 25)) := (Below.refl _ _).alloc (Nat.le_refl _) _
 have HP := Lib.hid (hp.later hbx)
 have HL := Lib.hid (Lies.made w3 25 (pgC A c B d p))
 replace HB := Lib.hid (HB.out.trans ((then_ hbm hbx).mono HB.out.size))
 clear hp hbm hbx e1 e2 HRD
 generalize w3.heap.size = n3 at *
 generalize w3.alloc (.cells (pgC A c B d p) 25) = w4 at *
 go_wp2_with fail
 refine (HRF.out _).mono ?_
 rintro e w5 ⟨A', c', B', d', rfl, hq, hbm⟩
 dsimp only at hq
 dsimp only
 go_upto_region 5 with (fail)
 have hbx : Below w5.heap.size w5 (w5.alloc (.cells (pgC A' c' B' d' p) 25)) := (Below.refl _ _).alloc (Nat.le_refl _) _
 have HQ := Lib.hid (hq.later hbx)
 have HX := Lib.hid (Lies.made w5 25 (pgC A' c' B' d' p))
 replace HP := Lib.hid (HP.out.later (then_ hbm hbx))
 replace HL := Lib.hid (HL.out.below (then_ hbm hbx) HL.out.lt)
 replace HB := Lib.hid (HB.out.trans ((then_ hbm hbx).mono HB.out.size))
 clear hq hbm hbx HRF
 generalize w5.heap.size = n5 at *
 generalize w5.alloc (.cells (pgC A' c' B' d' p) 25) = w6 at *
 have c0 := (HL.out.cell 0).trans (show _ = some (Value.slice A p.rs.length c) from rfl)
 have c1 := (HL.out.cell 1).trans (show _ = some (Value.slice B p.ts.length d) from rfl)
 have cl := HL.out.lt
 have d0 := (HX.out.cell 0).trans (show _ = some (Value.slice A' p.rs.length c') from rfl)
 have d1 := (HX.out.cell 1).trans (show _ = some (Value.slice B' p.ts.length d') from rfl)
 have dl := HX.out.lt
 by_cases hn0 : n = 0
 ·subst hn0
  obtain rfl : ec = 0 := HEC.out.symm
  obtain ⟨hls, htx⟩ := HGOOD.out rfl
  try dsimp only at hls htx
  have HPR := Lib.hid (fun w (hw : Below W.heap.size W w) (hp : PgAt w A c B d p) => print10 p A c B d w hp (HN.out.later hw).names (HN.out.later hw).pow)
  rw [(prn_yes hls).1, (prn_yes hls).2, htx] at HPR
  clear HGOOD HBAD hls htx
  go_wp2_with fail
  refine (HPR.out _ HB.out HP.out).mono ?_
  rintro e w7 ⟨rfl, hbm⟩
  clear HPR
  replace HP := Lib.hid (HP.out.later hbm)
  replace HQ := Lib.hid (HQ.out.later hbm)
  replace HL := Lib.hid (HL.out.below hbm HL.out.lt)
  replace HX := Lib.hid (HX.out.below hbm HX.out.lt)
  replace HB := Lib.hid (HB.out.trans (hbm.mono HB.out.size))
  clear c0 c1 cl d0 d1 dl hbm
  have c0 := (HL.out.cell 0).trans (show _ = some (Value.slice A p.rs.length c) from rfl)
  have c1 := (HL.out.cell 1).trans (show _ = some (Value.slice B p.ts.length d) from rfl)
  have cl := HL.out.lt
  have d0 := (HX.out.cell 0).trans (show _ = some (Value.slice A' p.rs.length c') from rfl)
  have d1 := (HX.out.cell 1).trans (show _ = some (Value.slice B' p.ts.length d') from rfl)
  have dl := HX.out.lt
  have HSM := Lib.hid (rfSame p p A c B d A' c' B' d' w7 HP.out HQ.out)
  rw [same_self] at HSM
  go_wp2_with fail
  refine HSM.out.mono ?_
  rintro e w8 ⟨rfl, hb⟩
  have hbz := HB.out.trans (hb.mono HB.out.size)
  go_wp2
  go_ret
  exact ⟨rfl, hbz⟩
 ·have hpe := HBAD.out (by simpa using hn0)
  try dsimp only at hpe
  subst hpe
  have e1 : ((n : Int) == 0) = false := by rw [beq_eq_false_iff_ne]; omega
  have e2 : ((n : Int) != 0) = true := by simp [bne, e1]
  have HSM := Lib.hid (rfSame ⟨[], []⟩ ⟨[], []⟩ A c B d none 0 none 0 w6 HP.out (pg_nothing _))
  rw [same_self] at HSM
  obtain rfl : ec = 3 := HEC.out.symm.trans (if_neg hn0)
  clear HGOOD HBAD hn0
  go_wp2_with fail
  refine HSM.out.mono ?_
  rintro e w8 ⟨rfl, hb⟩
  have hbz := HB.out.trans (hb.mono HB.out.size)
  go_wp2
  go_ret
  exact ⟨rfl, hbz⟩
end Go.Proofs.YtcpgneimagmknaaGreatDoor
