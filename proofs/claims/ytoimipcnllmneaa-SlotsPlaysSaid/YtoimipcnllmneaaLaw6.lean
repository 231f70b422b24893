import Derived.Test.YtoimipcnllmneaaLaw5
namespace Go.Proofs.Ytoimipcnllmneaa
open Go.RowKit
set_option linter.unusedVariables false
set_option linter.unusedSimpArgs false
set_option maxHeartbeats 2000000 in
set_option maxRecDepth 100000 in
theorem splays_walk (a0 a1 : Int) (a2 : Option Addr) (len2 cap2 : Nat) (z2 : List Op4) (w : World) (w0 : (Lit.int .i64 a0).wf = true) (w1 : (Lit.int .i64 a1).wf = true) (h : ArgOf opF 4 opOk w a2 len2 cap2 z2) :
    Calls Try.prog 3 #[.int .i64 a0, .int .i64 a1, .slice a2 len2 cap2] w fun e w' => e = .returned (.bool true) ∧ Below w.heap.size w w' := by
  obtain ⟨hn, hll, hseq, hok⟩ := h
  subst hll
  obtain ⟨A', cp', hv, hlc, hcm, _⟩ := hseq.form
  simp only [Value.slice.injEq, true_and] at hv
  obtain ⟨rfl, rfl⟩ := hv
  unfold maxLen at hcm
  obtain ⟨b1, b2⟩ := Go.bounds_i64 w0
  obtain ⟨b3, b4⟩ := Go.bounds_i64 w1
  have H := Lib.hid hseq
  have HOK := Lib.hid hok
  have HLT : Hid (∀ b o, a2 = some ⟨b, o, none⟩ → z2.length ≠ 0 → b < w.heap.size) := fun b o e hz => by
    obtain ⟨x, hx⟩ : ∃ x, z2[0]? = some x := ⟨_, List.getElem?_eq_getElem (by omega)⟩
    obtain ⟨b', o', e', hb, _⟩ := SeqS.at_ opF_length (by decide) hseq hx
    rw [e] at e'
    simp only [Option.some.injEq, Addr.mk.injEq, and_true] at e'
    rw [e'.1]; exact hb
  clear hseq hok hn w0 w1
  by_cases hs : 200 < z2.length
  · have e0 : decide ((200 : Int) < (z2.length : Int)) = true := by simp; omega
    have hbel := Below.refl w.heap.size w
    go_enter Try.func3, Try.ntmps3
    go_wp2_with (go_at_call 8; refine (awake_any _).mono ?_; rintro e w1 ⟨rfl, hb⟩; have hbel := then_ hbel hb; clear hb)
    go_ret
    exact ⟨rfl, hbel⟩
  have e0 : decide ((200 : Int) < (z2.length : Int)) = false := by simp; omega
  have hlen : z2.length ≤ 200 := by omega
  clear hs
  have hbel := Below.refl w.heap.size w
  go_enter Try.func3, Try.ntmps3
  go_wp2_with fail
  refine (awake_any _).mono ?_
  rintro e wA ⟨rfl, hb⟩
  have hbel := then_ hbel hb
  clear hb
  by_cases hr : 1 ≤ a0 ∧ a0 ≤ 64 ∧ 1 ≤ a1 ∧ a1 ≤ 8
  · obtain ⟨p, rfl⟩ : ∃ p : Nat, a0 = p := ⟨a0.toNat, by omega⟩
    obtain ⟨r, rfl⟩ : ∃ r : Nat, a1 = r := ⟨a1.toNat, by omega⟩
    have e1 : decide ((p : Int) < 1) = false := by rw [decide_eq_false_iff_not]; omega
    have e2 : decide ((64 : Int) < (p : Int)) = false := by rw [decide_eq_false_iff_not]; omega
    have e3 : decide ((r : Int) < 1) = false := by rw [decide_eq_false_iff_not]; omega
    have e4 : decide ((8 : Int) < (r : Int)) = false := by rw [decide_eq_false_iff_not]; omega
    have h1 : 1 ≤ p := by omega
    have h2 : p ≤ 64 := by omega
    have h3 : 1 ≤ r := by omega
    have h4 : r ≤ 8 := by omega
    clear hr
    go_wp2_with fail
    refine (slotsNew p r wA h1 h2 h3 h4).mono ?_
    rintro e w1 ⟨rfl, hs1, hb1⟩
    have hgA : w.heap.size ≤ wA.heap.size := hbel.size
    have hbel1 := hbel.trans (hb1.mono hbel.size)
    have HS1 := Lib.hid hs1
    have hg1 : wA.heap.size < w1.heap.size := hs1.lt
    clear hs1 hb1 hbel
    go_wp2_with fail
    refine (ref12New p r w1 h2 h4).mono ?_
    rintro e w2 ⟨v2, rfl, hr2, hb2, hf2⟩
    obtain ⟨A, c, rfl, hq2, hA2⟩ := hr2.from_ hf2 (by rw [newS_length]; exact h1)
    have hbel2 := hbel1.trans (hb2.mono hbel1.size)
    have hs2 := HS1.out.later hb2
    have hsc := H.out.later hbel2
    have hg2 : w1.heap.size ≤ w2.heap.size := hb2.size
    have hpl : wA.heap.size + 1 ≤ A.block := by omega
    have hne : z2.length ≠ 0 → ∀ b o, a2 = some ⟨b, o, none⟩ → b ≠ wA.heap.size := fun hz b o e hbe => by have := HLT.out b o e hz; omega
    have hpw := plays_walk (newS p) z2 A c a2 cap2 w2 hs2 rfl hq2 hpl hsc hne HOK.out hlen
    have HPW := Lib.hid hpw
    clear hpw hne hsc hs2 hq2 hr2 hb2 hf2 hbel1 H HLT HOK HS1
    go_wp2_with fail
    refine HPW.out.mono ?_
    rintro e w3 ⟨rfl, hk3⟩
    have hbel3 := hbel2.trans (hk3.below hbel2.size (fun j hj (e : j = _) => by omega))
    go_wp2
    go_ret
    exact ⟨rfl, hbel3⟩
  · have HN := Lib.hid (slotsNewNo a0 a1 wA hr)
    have hc : decide (a0 < 1) = true ∨ decide (a0 < 1) = false ∧ (decide (64 < a0) = true ∨ decide (64 < a0) = false ∧ (decide (a1 < 1) = true ∨ decide (a1 < 1) = false ∧ decide (8 < a1) = true)) := by
      by_cases q1 : a0 < 1
      · exact .inl (decide_eq_true q1)
      refine .inr ⟨decide_eq_false q1, ?_⟩
      by_cases q2 : 64 < a0
      · exact .inl (decide_eq_true q2)
      refine .inr ⟨decide_eq_false q2, ?_⟩
      by_cases q3 : a1 < 1
      · exact .inl (decide_eq_true q3)
      exact .inr ⟨decide_eq_false q3, decide_eq_true (by omega)⟩
    clear hr
    go_wp2_with fail
    refine HN.out.mono ?_
    rintro e w' ⟨rfl, rfl⟩
    rcases hc with e1 | ⟨e1, e2 | ⟨e2, e3 | ⟨e3, e4⟩⟩⟩
    all_goals
      go_wp2
      go_ret
      exact ⟨rfl, hbel⟩
end Go.Proofs.Ytoimipcnllmneaa
