import Derived.Test.YtahojmioonpodaaRing9
namespace Go.Proofs.Ytahojmioonpodaa
open Go.RowKit
set_option linter.unusedVariables false
set_option linter.unusedSimpArgs false
def z8 : List Nat := [0, 0, 0, 0, 0, 0, 0, 0]
def o8 : List Nat := [1, 0, 0, 0, 0, 0, 0, 0]
def aw1 : Rg := ⟨1, 1, 1, z8, false, [⟨0, 0, 0⟩]⟩
def aw2 : Rg := ⟨1, 1, 1, o8, false, [⟨0, 0, 0⟩]⟩
def aw3 : Rg := ⟨1, 1, 1, o8, false, [⟨1, 7, 1⟩]⟩
def aw4 : Rg := ⟨1, 1, 2, o8, false, [⟨1, 7, 1⟩]⟩
def aw5 : Rg := ⟨1, 1, 2, o8, false, [⟨2, 0, 0⟩]⟩
def aw6 : Rg := ⟨1, 1, 2, o8, false, [⟨3, 8, 1⟩]⟩
def aw7 : Rg := ⟨1, 1, 2, o8, true, [⟨3, 8, 1⟩]⟩
theorem awA : claimV (newR 1 1) = 0 ∧ claimE (newR 1 1) = 0 ∧ claimR (newR 1 1) = aw1 := ⟨rfl, rfl, rfl⟩
theorem awB : claimV aw1 = 0 ∧ claimE aw1 = 8 ∧ claimR aw1 = aw1 := ⟨rfl, rfl, rfl⟩
theorem awC : takeV aw1 0 = 0 ∧ takeE aw1 0 = 0 ∧ takeR aw1 0 = aw2 := ⟨rfl, rfl, rfl⟩
theorem awD : relV aw2 0 0 = 0 ∧ relE aw2 0 0 = 9 ∧ relR aw2 0 0 = aw2 := ⟨rfl, rfl, rfl⟩
theorem awE : pubE aw2 0 = 0 ∧ pubR aw2 0 7 = aw3 := ⟨rfl, rfl⟩
theorem awF : claimV aw3 = 1 ∧ claimE aw3 = 0 ∧ claimR aw3 = aw4 := ⟨rfl, rfl, rfl⟩
theorem awG : pubE aw4 1 = 8 ∧ pubR aw4 1 8 = aw4 := ⟨rfl, rfl⟩
theorem awH : relV aw4 0 0 = 7 ∧ relE aw4 0 0 = 0 ∧ relR aw4 0 0 = aw5 := ⟨rfl, rfl, rfl⟩
theorem awI : pubE aw5 1 = 0 ∧ pubR aw5 1 8 = aw6 := ⟨rfl, rfl⟩
theorem awJ : claimV aw7 = 0 ∧ claimE aw7 = 10 ∧ claimR aw7 = aw7 := ⟨rfl, rfl, rfl⟩
theorem awK : loadsB 1 1 2 true [1] [⟨3, 8, 1⟩] = true := by decide +kernel
theorem awL : loadsB 2 1 2 true [1] [⟨3, 8, 1⟩] = false := by decide +kernel
set_option maxHeartbeats 4000000 in
set_option maxRecDepth 100000 in
theorem awake_any (w : World) : Calls Try.prog 10 #[] w fun e w' => e = .returned (.bool true) ∧ Below w.heap.size w w' := by
  go_enter Try.func10, Try.ntmps10
  go_wp2_with fail
  refine (rgNew 1 1 1 w (by omega) (by omega) (by omega) (by omega) (.inl ⟨rfl, rfl⟩)).mono ?_
  rintro e w0 ⟨g, rfl, hg, h0, b0⟩
  go_wp2_with fail
  refine (rgNewNo 1 1 2 w0 (by decide)).mono ?_
  rintro e wB ⟨rfl, hbB⟩
  have h1 := h0.later hbB
  have b1 := b0.trans (hbB.mono b0.size)
  clear h0 b0 hbB
  go_wp2_with fail
  refine (rgClaim h1 rfl (by decide)).mono ?_
  rintro e w1 ⟨rfl, h2, k1⟩
  have b2 := b1.trans (k1.below b1.size (fun j hj (e : j = _) => by omega))
  rw [awA.2.2] at h2
  rw [awA.1, awA.2.1]
  clear h1 k1 b1
  go_wp2_with fail
  refine (rgClaim h2 rfl (by decide)).mono ?_
  rintro e w2 ⟨rfl, h3, k2⟩
  have b3 := b2.trans (k2.below b2.size (fun j hj (e : j = _) => by omega))
  rw [awB.2.2] at h3
  rw [awB.1, awB.2.1]
  clear h2 k2 b2
  go_wp2_with fail
  refine (rgTake 0 h3 rfl).mono ?_
  rintro e w3 ⟨rfl, h4, k3⟩
  have b4 := b3.trans (k3.below b3.size (fun j hj (e : j = _) => by omega))
  rw [awC.2.2] at h4
  rw [awC.1, awC.2.1]
  clear h3 k3 b3
  go_wp2_with fail
  refine (rgRelease 0 0 h4 rfl (by omega)).mono ?_
  rintro e w4 ⟨rfl, h5, k4⟩
  have b5 := b4.trans (k4.below b4.size (fun j hj (e : j = _) => by omega))
  rw [awD.2.2] at h5
  rw [awD.1, awD.2.1]
  clear h4 k4 b4
  go_wp2_with fail
  refine (rgPublish 0 7 h5 rfl (by omega) (by omega)).mono ?_
  rintro e w5 ⟨rfl, h6, k5⟩
  have b6 := b5.trans (k5.below b5.size (fun j hj (e : j = _) => by omega))
  rw [awE.2] at h6
  rw [awE.1]
  clear h5 k5 b5
  go_wp2_with fail
  refine (rgClaim h6 rfl (by decide)).mono ?_
  rintro e w6 ⟨rfl, h7, k6⟩
  have b7 := b6.trans (k6.below b6.size (fun j hj (e : j = _) => by omega))
  rw [awF.2.2] at h7
  rw [awF.1, awF.2.1]
  clear h6 k6 b6
  go_wp2_with fail
  refine (rgPublish 1 8 h7 rfl (by omega) (by omega)).mono ?_
  rintro e w7 ⟨rfl, h8, k7⟩
  have b8 := b7.trans (k7.below b7.size (fun j hj (e : j = _) => by omega))
  rw [awG.2] at h8
  rw [awG.1]
  clear h7 k7 b7
  go_wp2_with fail
  refine (rgRelease 0 0 h8 rfl (by omega)).mono ?_
  rintro e w8 ⟨rfl, h9, k8⟩
  have b9 := b8.trans (k8.below b8.size (fun j hj (e : j = _) => by omega))
  rw [awH.2.2] at h9
  rw [awH.1, awH.2.1]
  clear h8 k8 b8
  go_wp2_with fail
  refine (rgPublish 1 8 h9 rfl (by omega) (by omega)).mono ?_
  rintro e w9 ⟨rfl, h10, k9⟩
  have b10 := b9.trans (k9.below b9.size (fun j hj (e : j = _) => by omega))
  rw [awI.2] at h10
  rw [awI.1]
  clear h9 k9 b9
  go_wp2_with fail
  refine (rgClose h10 rfl).mono ?_
  rintro e w10 ⟨rfl, h11, k10⟩
  have b11 := b10.trans (k10.below b10.size (fun j hj (e : j = _) => by omega))
  rw [show { aw6 with cl := true } = aw7 from rfl] at h11
  clear h10 k10 b10
  go_wp2_with fail
  refine (rgClaim h11 rfl (by decide)).mono ?_
  rintro e w11 ⟨rfl, h12, k11⟩
  have b12 := b11.trans (k11.below b11.size (fun j hj (e : j = _) => by omega))
  rw [awJ.2.2] at h12
  rw [awJ.1, awJ.2.1]
  clear h11 k11 b11
  go_wp2_with fail
  refine (rgState h12 rfl).mono ?_
  rintro e wS ⟨A1, c1, A2, c2, rfl, o1, o2, hbS⟩
  have q1 : SeqAt wS (.slice A1 1 c1) (cellsH [1]) := SeqAt.of_owns o1
  have q2 : SeqS wS 3 (.slice A2 1 c2) 1 (rowsOf slF [⟨3, 8, 1⟩]) := SeqS.of_owns o2
  have bS := b12.trans (hbS.mono b12.size)
  have hbA : Below wS.heap.size wS (wS.alloc (.cells #[.int .u64 2, .slice A1 1 c1, .bool true, .slice A2 1 c2] 42)) := (Below.refl _ _).alloc (Nat.le_refl _) _
  have q1 := q1.later_ hbA
  have q2 := q2.later hbA
  have ls := Lies.made wS 42 #[.int .u64 2, .slice A1 1 c1, .bool true, .slice A2 1 c2]
  have bA := bS.trans (hbA.mono bS.size)
  have hin : ∀ x ∈ [(⟨3, 8, 1⟩ : Sl)], slIn x := by
    intro x hx
    simp at hx
    subst hx; exact ⟨by decide, by decide, by decide, by decide⟩
  have HIN := Lib.hid hin
  have Q1 := Lib.hid q1
  have Q2 := Lib.hid q2
  have LS := Lib.hid ls
  have BA := Lib.hid bA
  have hld := Lib.hid (fun w => rgLoad 1 1 1 2 true [1] [⟨3, 8, 1⟩] A1 1 c1 A2 1 c2 w (by omega) (by omega) (by omega) (by omega) (.inl ⟨rfl, rfl⟩))
  have hld2 := Lib.hid (fun w => rgLoad 1 2 1 2 true [1] [⟨3, 8, 1⟩] A1 1 c1 A2 1 c2 w (by omega) (by omega) (by omega) (by omega) (.inl ⟨rfl, rfl⟩))
  clear h12 b12 o1 o2 hbS bS hbA q1 q2 ls bA hin
  go_wp2_with fail
  refine (hld.out _ Q1.out Q2.out HIN.out).mono ?_
  rintro e wT ⟨hbT, hp⟩
  unfold RLoadPost at hp
  rw [awK, if_pos rfl] at hp
  obtain ⟨gT, hgT, rfl, _⟩ := hp
  have lsT := LS.out.below hbT LS.out.lt
  have bT := BA.out.trans (hbT.mono BA.out.size)
  have Q1 := Lib.hid (Q1.out.later_ hbT)
  have Q2 := Lib.hid (Q2.out.later hbT)
  have LST := Lib.hid lsT
  have BT := Lib.hid bT
  have d0 := (lsT.cell 0).trans (show _ = some (Value.int .u64 2) from rfl)
  have d1 := (lsT.cell 1).trans (show _ = some (Value.slice A1 1 c1) from rfl)
  have d2 := (lsT.cell 2).trans (show _ = some (Value.bool true) from rfl)
  have d3 := (lsT.cell 3).trans (show _ = some (Value.slice A2 1 c2) from rfl)
  have hwS := lsT.lt
  clear hbT lsT bT LS BA hgT hld
  go_wp2_with fail
  refine (hld2.out _ Q1.out Q2.out HIN.out).mono ?_
  rintro e wU ⟨hbU, hp⟩
  unfold RLoadPost at hp
  rw [awL, if_neg (by decide)] at hp
  obtain rfl := hp
  have lsU := LST.out.below hbU LST.out.lt
  have bU := BT.out.trans (hbU.mono BT.out.size)
  obtain ⟨bx, ox, rfl, _, hc⟩ := Q1.out.get hbU (k := 0) (u := .int .u64 1) rfl
  have d0 := (lsU.cell 0).trans (show _ = some (Value.int .u64 2) from rfl)
  have d1 := (lsU.cell 1).trans (show _ = some (Value.slice (some ⟨bx, ox, none⟩) 1 c1) from rfl)
  rw [Nat.add_zero] at hc
  clear hbU lsU hld2 Q1 Q2 HIN LST BT
  go_wp2
  go_ret
  exact ⟨rfl, bU⟩
end Go.Proofs.Ytahojmioonpodaa
