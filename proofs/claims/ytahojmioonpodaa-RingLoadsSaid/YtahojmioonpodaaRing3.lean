import Derived.Test.YtahojmioonpodaaRing2
namespace Go.Proofs.Ytahojmioonpodaa
open Go.RowKit
set_option linter.unusedVariables false
set_option linter.unusedSimpArgs false
def claimE (R : Rg) : Nat := if R.cl = true then 10 else if fullB R = true then 8 else 0
def claimV (R : Rg) : Nat := if claimE R = 0 then R.tail else 0
def claimR (R : Rg) : Rg := if claimE R = 0 then { R with tail := R.tail + 1 } else R
def pubE (R : Rg) (t : Nat) : Nat := if R.tail ≤ t then 11 else putE R.L t
def pubR (R : Rg) (t v : Nat) : Rg := if R.tail ≤ t then R else { R with L := putS R.rd R.L t v }
def takeE (R : Rg) (j : Int) : Nat := if readsB R j = false then 1 else if headN R j = R.tail then (if R.cl = true then 10 else 9) else 0
def takeV (R : Rg) (j : Int) : Nat := if takeE R j = 0 then headN R j else 0
def takeR (R : Rg) (j : Int) : Rg := if takeE R j = 0 then { R with h8 := R.h8.set j.toNat (headN R j + 1) } else R
def relE (R : Rg) (j : Int) (t : Nat) : Nat := if readsB R j = false then 1 else if headN R j ≤ t then 11 else getE R.rd R.L j t
def relV (R : Rg) (j : Int) (t : Nat) : Nat := if relE R j t = 0 then getV R.rd R.L j t else 0
def relR (R : Rg) (j : Int) (t : Nat) : Rg := if relE R j t = 0 then { R with L := getS R.rd R.L j t } else R
def rfreeB (R : Rg) (t : Nat) : Bool := decide (t < R.tail) && freeB R.L t
def rhasB (R : Rg) (j : Int) (t : Nat) : Bool := readsB R j && (decide (t < headN R j) && decide (getE R.rd R.L j t = 0))
theorem claimR_ok {R : Rg} (h : RgOk R) (ht : R.tail < 4611687117939015680) : RgOk (claimR R) := by
  unfold claimR
  split
  · exact ⟨h.1, h.2.1, h.2.2.1, by simp only; omega, fun x hx => by have := h.2.2.2.2 x hx; simp only; omega⟩
  · exact h
theorem pubR_ok {R : Rg} (h : RgOk R) (t v : Nat) (hv : v < 18446744073709551616) : RgOk (pubR R t v) := by
  unfold pubR
  split
  · exact h
  · exact ⟨h.1, putS_ok h.2.1 t v hv, by simp only; rw [putS_length]; exact h.2.2.1, h.2.2.2.1, h.2.2.2.2⟩
theorem takeE_ok {R : Rg} {j : Int} (h : takeE R j = 0) : readsB R j = true ∧ headN R j ≠ R.tail := by
  unfold takeE at h
  split at h
  · exact absurd h (by decide)
  · rename_i h1
    split at h
    · split at h <;> exact absurd h (by decide)
    · rename_i h2
      exact ⟨by simpa using h1, h2⟩
theorem headN_get {R : Rg} (h : RgOk R) {j : Int} (hr : readsB R j = true) : R.h8[j.toNat]? = some (headN R j) ∧ j.toNat < 8 ∧ 0 ≤ j := by
  obtain ⟨h0, h1⟩ := of_decide_eq_true hr
  have := h.2.1.2.2.2.1
  have h8 := h.1
  refine ⟨?_, by omega, h0⟩
  unfold headN
  rw [List.getD_eq_getElem?_getD, List.getElem?_eq_getElem (by omega)]; rfl
theorem takeR_ok {R : Rg} (h : RgOk R) (j : Int) : RgOk (takeR R j) := by
  unfold takeR
  split
  · rename_i he
    obtain ⟨hr, hne⟩ := takeE_ok he
    obtain ⟨hg, _, _⟩ := headN_get h hr
    have hm := h.2.2.2.2 _ (List.mem_of_getElem? hg)
    refine ⟨by simp only; rw [List.length_set]; exact h.1, h.2.1, h.2.2.1, h.2.2.2.1, fun x hx => ?_⟩
    rcases List.mem_or_eq_of_mem_set hx with hx | rfl
    · exact h.2.2.2.2 x hx
    · simp only; omega
  · exact h
theorem relR_ok {R : Rg} (h : RgOk R) (j : Int) (t : Nat) : RgOk (relR R j t) := by
  unfold relR
  split
  · exact ⟨h.1, getS_ok h.2.1 j t, by simp only; rw [getS_length]; exact h.2.2.1, h.2.2.2.1, h.2.2.2.2⟩
  · exact h
section
variable {w : World} {g o : Nat} {T : TypeId} {p0 post : List Value} {R : Rg}
set_option maxHeartbeats 1000000 in
set_option maxRecDepth 100000 in
theorem rgClaim (h : RgAt w g T p0 post R) (ho : p0.length = o) (ht : R.tail < 4611687117939015680) :
    Calls Try.prog 26 #[.pointer (some ⟨g, o, none⟩)] w fun e w' => e = .returned (.tuple #[.int .u64 (claimV R : Nat), .int .i64 (claimE R : Nat)]) ∧ RgAt w' g T p0 post (claimR R) ∧ Kept (oneRow g) w w' := by
  have HF := Lib.hid (cuFull h ho)
  subst ho
  obtain ⟨c0, c1, c2, c3⟩ := h.cells
  by_cases hc : R.cl = true
  · have hE : claimE R = 10 := by unfold claimE; rw [if_pos hc]
    have HE := Lib.hid hE
    have HV : Hid (claimV R = 0) := by show _ = _; unfold claimV; rw [hE, if_neg (by decide)]
    have HR : Hid (claimR R = R) := by show _ = _; unfold claimR; rw [hE, if_neg (by decide)]
    have H := Lib.hid h
    rw [hc] at c3
    clear h hE hc
    go_enter Try.func26, Try.ntmps26
    go_wp2
    go_ret2
    exact ⟨by rw [HE.out, HV.out]; rfl, by rw [HR.out]; exact H.out, Kept.refl _ _⟩
  have hc : R.cl = false := by simpa using hc
  by_cases hf : fullB R = true
  · have hE : claimE R = 8 := by unfold claimE; rw [hc, if_neg (by decide), if_pos hf]
    have HE := Lib.hid hE
    have HV : Hid (claimV R = 0) := by show _ = _; unfold claimV; rw [hE, if_neg (by decide)]
    have HR : Hid (claimR R = R) := by show _ = _; unfold claimR; rw [hE, if_neg (by decide)]
    have H := Lib.hid h
    have hff := HF.out
    rw [hf] at hff
    have HF2 := Lib.hid hff
    rw [hc] at c3
    clear h hE hc hf hff HF
    go_enter Try.func26, Try.ntmps26
    go_wp2_with fail
    refine HF2.out.mono ?_
    rintro e w' ⟨rfl, n, rfl⟩
    go_wp2
    go_ret2
    exact ⟨by rw [HE.out, HV.out]; rfl, by rw [HR.out]; exact H.out, Kept.drewN _ _ _⟩
  have hf : fullB R = false := by simpa using hf
  have hE : claimE R = 0 := by unfold claimE; rw [hc, if_neg (by decide), hf, if_neg (by decide)]
  have HE := Lib.hid hE
  have HV : Hid (claimV R = R.tail) := by show _ = _; unfold claimV; rw [hE, if_pos rfl]
  have hR : claimR R = { R with tail := R.tail + 1 } := by unfold claimR; rw [hE, if_pos rfl]
  have hput := fun n => (h.drewN n).put (R' := claimR R) (k := 2) (u := .int .u64 ((R.tail + 1 : Nat) : Int)) (by decide) (claimR_ok h.1 ht) (by rw [hR]) (by rw [hR]) (by rw [hR]; rfl)
  have HPUT := Lib.hid hput
  have f2 := h.free (p0.length + 2)
  have hff := HF.out
  rw [hf] at hff
  have HF2 := Lib.hid hff
  rw [hc] at c3
  clear h hE hc hf hff HF hR hput
  go_enter Try.func26, Try.ntmps26
  go_wp2_with fail
  refine HF2.out.mono ?_
  rintro e w' ⟨rfl, n, rfl⟩
  go_wp2
  go_ret2
  exact ⟨by rw [HE.out, HV.out]; rfl, HPUT.out n, (Kept.drewN _ _ n).trans (Kept.put _ g (p0.length + 2) _) (fun _ _ h => h)⟩
set_option maxRecDepth 100000 in
theorem rgPublish (t v : Nat) (h : RgAt w g T p0 post R) (ho : p0.length = o) (ht : t ≤ 18446744073709551615) (hv : v ≤ 18446744073709551615) :
    Calls Try.prog 24 #[.pointer (some ⟨g, o, none⟩), .int .u64 t, .int .u64 v] w fun e w' => e = .returned (.int .i64 (pubE R t : Nat)) ∧ RgAt w' g T p0 post (pubR R t v) ∧ Kept (oneRow g) w w' := by
  obtain ⟨s1, s2⟩ := h.slots
  have HP := Lib.hid (slotsPut t v s1 s2 ht hv)
  subst ho
  obtain ⟨c0, c1, c2, c3⟩ := h.cells
  have htl := h.1.2.2.2.1
  by_cases hb : R.tail ≤ t
  · have e1 : decide (R.tail ≤ t) = true := by simpa using hb
    have HE : Hid (pubE R t = 11) := if_pos hb
    have HR : Hid (pubR R t v = R) := if_pos hb
    have H := Lib.hid h
    clear h hb HP s1 s2
    generalize R.tail = tl at *
    go_enter Try.func24, Try.ntmps24
    go_wp2
    go_ret
    exact ⟨by rw [HE.out]; rfl, by rw [HR.out]; exact H.out, Kept.refl _ _⟩
  · have e1 : decide (R.tail ≤ t) = false := by simpa using hb
    have HE : Hid (pubE R t = putE R.L t) := if_neg hb
    have HR : Hid (pubR R t v = { R with L := putS R.rd R.L t v }) := if_neg hb
    have HOK := Lib.hid (pubR_ok h.1 t v (by omega))
    clear h hb s1 s2
    go_enter Try.func24, Try.ntmps24
    go_wp2_with fail
    refine HP.out.mono ?_
    rintro e w1 ⟨rfl, hs, hk⟩
    have HS := Lib.hid hs
    clear hs HP
    go_wp2
    go_ret
    refine ⟨by rw [HE.out]; rfl, ⟨HOK.out, ?_⟩, hk⟩
    rw [HR.out]
    exact HS.out
theorem rgClose (h : RgAt w g T p0 post R) (ho : p0.length = o) :
    Calls Try.prog 27 #[.pointer (some ⟨g, o, none⟩)] w fun e w' => e = .returned (.int .i64 0) ∧ RgAt w' g T p0 post { R with cl := true } ∧ Kept (oneRow g) w w' := by
  subst ho
  obtain ⟨c0, c1, c2, c3⟩ := h.cells
  have f3 := h.free (p0.length + 11)
  have h8 := h.1.1
  have HPUT := Lib.hid (h.put (R' := { R with cl := true }) (k := 11) (u := .bool true) (by decide) h.1 rfl rfl (by
    unfold cuR cuF
    rw [List.set_append_right _ _ (by simp [h8])]
    simp [h8]))
  clear h h8
  go_enter Try.func27, Try.ntmps27
  go_wp2
  go_ret
  exact ⟨rfl, HPUT.out, Kept.put _ _ _ _⟩
end
end Go.Proofs.Ytahojmioonpodaa
