import Derived.Test.YteecfffgigaomaaLaw4
namespace Go.Proofs.Yteecfffgigaomaa
open Go.RowKit
set_option linter.unusedVariables false
set_option linter.unusedSimpArgs false
theorem thBad_append {rs : List Ri} {m : List In} : ∀ (ts : List (List In)) (t : Nat), thBad rs ts t = none → thBad rs (ts ++ [m]) t = thBad rs [m] (t + ts.length)
  | [], _, _ => rfl
  | l :: ts, t, h => by
    show thBad rs (l :: (ts ++ [m])) t = _
    unfold thBad at h
    conv => lhs; unfold thBad
    by_cases e : 256 < l.length
    · rw [if_pos e] at h; cases h
    · rw [if_neg e] at h ⊢
      cases hb : inBad rs l.length l 0 with
      | some q => rw [hb] at h; cases h
      | none =>
        rw [hb] at h
        simp only at h ⊢
        rw [thBad_append ts (t + 1) h, List.length_cons]
        congr 1; omega
theorem thBad_one {rs : List Ri} {m : List In} : ∃ (k e : Nat), ∀ t, thBad rs [m] t = some (t, k, e) ∨ (k = 0 ∧ e = 0 ∧ thBad rs [m] t = none) := by
  by_cases h : 256 < m.length
  · exact ⟨256, 4, fun t => .inl (by unfold thBad; rw [if_pos h])⟩
  · cases hb : inBad rs m.length m 0 with
    | some q => exact ⟨q.1, q.2, fun t => .inl (by unfold thBad; rw [if_neg h, hb])⟩
    | none => exact ⟨0, 0, fun t => .inr ⟨rfl, rfl, by unfold thBad; rw [if_neg h, hb]; rfl⟩⟩
theorem right_none {p : Pg} (h : rightP p = true) : riBad p.rs 0 = none ∧ thBad p.rs p.ts 0 = none := by
  obtain ⟨⟨h0, h1, h2⟩, _, _⟩ := rightP_all h
  unfold rightP checkR at h
  rw [if_neg (by omega)] at h
  cases hr : riBad p.rs 0 with
  | some i => rw [hr] at h; simp at h
  | none =>
    rw [hr] at h
    refine ⟨rfl, ?_⟩
    cases ht : thBad p.rs p.ts 0 with
    | none => rfl
    | some q =>
      rw [ht] at h
      obtain ⟨t, k, e⟩ := q
      exfalso
      simp at h
      subst h
      have key : ∀ (ts : List (List In)) (t0 : Nat), thBad p.rs ts t0 = some (t, k, 0) → False := by
        have hq : ∀ (n : Nat) (m : List In) (k0 : Nat), inBad p.rs n m k0 = some (k, 0) → False := by
          intro n m
          induction m with
          | nil => intro k0 h; cases h
          | cons x m ih =>
            intro k0 h
            unfold inBad at h
            by_cases e4 : instrE p.rs n x = 0
            · rw [if_pos e4] at h; exact ih _ h
            · rw [if_neg e4] at h
              injection h with h
              injection h with _ h
              exact e4 h
        intro ts
        induction ts with
        | nil => intro t0 h; cases h
        | cons l ts ih =>
          intro t0 h
          unfold thBad at h
          by_cases e2 : 256 < l.length
          · rw [if_pos e2] at h
            simp at h
          · rw [if_neg e2] at h
            cases hb : inBad p.rs l.length l 0 with
            | none => rw [hb] at h; exact ih _ h
            | some q =>
              rw [hb] at h
              obtain ⟨k2, e3⟩ := q
              simp only [Option.some.injEq, Prod.mk.injEq] at h
              obtain ⟨_, rfl, rfl⟩ := h
              exact hq _ _ _ hb
      exact key _ _ ht
theorem check_more {p : Pg} {m : List In} (h : rightP p = true) (h7 : p.ts.length ≤ 7) : ∃ (T : Int) (K E : Nat), checkR ⟨p.rs, [m]⟩ = (0, (K : Int), E) ∧ checkR ⟨p.rs, p.ts ++ [m]⟩ = (T, (K : Int), E) ∧ (E = 0 ∨ T = (p.ts.length : Int)) := by
  obtain ⟨⟨h0, h1, h2⟩, _, _⟩ := rightP_all h
  obtain ⟨hr, ht⟩ := right_none h
  obtain ⟨k, e, hk⟩ := @thBad_one p.rs m
  have ha := thBad_append (m := m) p.ts 0 ht
  rw [Nat.zero_add] at ha
  have c1 : checkR ⟨p.rs, [m]⟩ = (0, (k : Int), e) := by
    unfold checkR
    simp only [List.length_cons, List.length_nil]
    rw [if_neg (by omega), hr]
    rcases hk 0 with h | ⟨rfl, rfl, h⟩
    · rw [h]; rfl
    · rw [h]; rfl
  rcases hk p.ts.length with h3 | ⟨rfl, rfl, h3⟩
  · refine ⟨(p.ts.length : Int), k, e, c1, ?_, .inr rfl⟩
    unfold checkR
    simp only [List.length_append, List.length_cons, List.length_nil]
    rw [if_neg (by omega), hr, ha, h3]
  · refine ⟨0, 0, 0, c1, ?_, .inl rfl⟩
    unfold checkR
    simp only [List.length_append, List.length_cons, List.length_nil]
    rw [if_neg (by omega), hr, ha, h3]; rfl
theorem one_pg {w : World} {A M : Option Addr} {c k g : Nat} {rs : List Ri} {m : List In} (hr : RisAt w A c rs) (hl : Lies w g 44 #[.slice M m.length k]) (hm : InsAt w M k m) : PgAt w A c (some ⟨g, 0, none⟩) 1 ⟨rs, [m]⟩ := by
  refine ⟨hr, [.slice M m.length k], seq_lit hl rfl (show 1 ≤ 1000000 by omega), fun i q hq => ?_⟩
  cases i with
  | zero => simp at hq; subst hq; exact ⟨M, k, rfl, hm⟩
  | succ i => simp at hq
theorem more_pg {w : World} {A B M : Option Addr} {c d k N b0 b1 b2 : Nat} {p : Pg} {m : List In} {vs : List Value} (hr : w.ownsRow b0 55 3 (.slice A p.rs.length c) p.rs.length (rowsOf riF p.rs)) (hN : N = (p.ts ++ [m]).length) (ht : w.ownsRow b0 44 1 (.slice B N d) N (vs ++ [.slice M m.length k]))
    (hi : Inners w b2 b1 p.ts vs) (hm : InsAt w M k m) : PgAt w A c B d ⟨p.rs, p.ts ++ [m]⟩ := by
  subst hN
  refine ⟨SeqS.of_owns hr, _, SeqS.of_owns ht, fun i l hl => ?_⟩
  have hlen := ht.1
  have hvl : vs.length = p.ts.length := by simp at hlen; omega
  by_cases hi2 : i < p.ts.length
  · have hl : (p.ts ++ [m])[i]? = some l := hl
    rw [List.getElem?_append_left hi2] at hl
    have hv : vs[i]? = some (vs[i]'(by omega)) := List.getElem?_eq_getElem (by omega)
    obtain ⟨l2, h1, h2, _⟩ := hi i _ hv
    rw [hl] at h1
    injection h1 with h1
    subst h1
    obtain ⟨C, q, hC⟩ := own_slice h2
    rw [hC] at h2 hv
    exact ⟨C, q, by rw [List.getElem?_append_left (by omega)]; exact hv, SeqS.of_owns h2⟩
  · have hl : (p.ts ++ [m])[i]? = some l := hl
    rw [List.getElem?_append_right (by omega)] at hl
    have h0 : i - p.ts.length = 0 := by
      have := (List.getElem?_eq_some_iff.1 hl).1
      simp at this; omega
    rw [h0] at hl
    simp at hl
    subst hl
    exact ⟨M, k, by rw [List.getElem?_append_right (by omega), hvl, h0]; rfl, hm⟩
set_option maxHeartbeats 16000000 in
set_option maxRecDepth 100000 in
theorem more_walk (z : Pa) (M : Option Addr) (n k : Nat) (m : List In) (W : World) (h : PaAt W z) (hm : m.length = n ∧ InsAt W M k m ∧ ∀ x ∈ m, inOk x) :
    Calls Try.prog 7 #[.agg (pgC z.A z.c z.B z.d z.p), .slice M n k] W fun e w' => e = .returned (.bool true) ∧ Below W.heap.size W w' := by
  obtain ⟨rfl, hmi, hmo⟩ := hm
  obtain ⟨hm1, hm2⟩ := seq_form hmi
  have HMI := Lib.hid hmi
  have HMO := Lib.hid hmo
  clear hmi hmo
  obtain ⟨A, c, B, d, p⟩ := z
  obtain ⟨hp, hok⟩ := h
  replace hp : PgAt W A c B d p := hp
  replace hok : pgOk p := hok
  obtain ⟨hc1, hc2⟩ := seq_form hp.1
  obtain ⟨hd1, hd2⟩ := hp.2.form
  have hb0 : Below W.heap.size W (W.alloc (.cells (pgC A c B d p) 25)) := (Below.refl _ _).alloc (Nat.le_refl _) _
  have l0 := Lies.made W 25 (pgC A c B d p)
  have HP := Lib.hid hp
  have HOK := Lib.hid hok
  have HB := Lib.hid hb0
  have HL := Lib.hid l0
  clear hp hok hb0 l0
  go_enter Try.func7, Try.ntmps7
  go_wp2_with fail
  generalize W.alloc (.cells (pgC A c B d p) 25) = w1 at *
  have c0 := (HL.out.cell 0).trans (show _ = some (Value.slice A p.rs.length c) from rfl)
  have c1 := (HL.out.cell 1).trans (show _ = some (Value.slice B p.ts.length d) from rfl)
  have cl := HL.out.lt
  refine (awake_any _).mono ?_
  rintro e w2 ⟨rfl, hbm⟩
  replace HB := Lib.hid (HB.out.trans ((hbm).mono HB.out.size))
  replace HL := Lib.hid (HL.out.below hbm HL.out.lt)
  clear c0 c1 cl
  have c0 := (HL.out.cell 0).trans (show _ = some (Value.slice A p.rs.length c) from rfl)
  have c1 := (HL.out.cell 1).trans (show _ = some (Value.slice B p.ts.length d) from rfl)
  have cl := HL.out.lt
  clear hbm
  go_wp2_with fail
  have HF := Lib.hid (fun w (hw : Below W.heap.size W w) => rfFew p 100 A c B d w (HP.out.later hw) (by omega))
  refine (HF.out _ HB.out).mono ?_
  rintro e wf ⟨rfl, hbm⟩
  clear HF
  replace HB := Lib.hid (HB.out.trans ((hbm).mono HB.out.size))
  replace HL := Lib.hid (HL.out.below hbm HL.out.lt)
  clear c0 c1 cl
  have c0 := (HL.out.cell 0).trans (show _ = some (Value.slice A p.rs.length c) from rfl)
  have c1 := (HL.out.cell 1).trans (show _ = some (Value.slice B p.ts.length d) from rfl)
  have cl := HL.out.lt
  clear hbm
  obtain ⟨fb, hfb⟩ : ∃ fb, fewB p 100 = fb := ⟨_, rfl⟩
  have HFB := Lib.hid hfb
  rw [hfb]
  clear hfb
  cases fb
  case false =>
    clear HFB
    go_wp2_with fail
    refine (awake_any _).mono ?_
    rintro e wz ⟨rfl, hbz⟩
    have hbz := HB.out.trans (hbz.mono HB.out.size)
    go_wp2
    go_ret
    exact ⟨rfl, hbz⟩
  obtain ⟨hf1, hf2, hf3, hf4⟩ := of_decide_eq_true HFB.out
  have HF3 := Lib.hid hf3
  clear hf3 HFB
  by_cases h300 : 300 < m.length
  · have e1 : decide ((300 : Int) < (m.length : Int)) = true := decide_eq_true (by omega)
    have e2 : decide (300 < m.length) = true := decide_eq_true h300
    clear h300
    go_wp2_with fail
    refine (awake_any _).mono ?_
    rintro e wz ⟨rfl, hbz⟩
    have hbz := HB.out.trans (hbz.mono HB.out.size)
    go_wp2
    go_ret
    exact ⟨rfl, hbz⟩
  have e1 : decide ((300 : Int) < (m.length : Int)) = false := decide_eq_false (by omega)
  have e2 : decide (300 < m.length) = false := decide_eq_false h300
  have HR := Lib.hid (fun w (hw : Below W.heap.size W w) => r11Right p A c B d w (HP.out.later hw) HOK.out)
  go_wp2_with fail
  refine (HR.out _ HB.out).mono ?_
  rintro e wr2 ⟨rfl, hbm⟩
  clear HR
  replace HB := Lib.hid (HB.out.trans ((hbm).mono HB.out.size))
  replace HL := Lib.hid (HL.out.below hbm HL.out.lt)
  clear c0 c1 cl
  have c0 := (HL.out.cell 0).trans (show _ = some (Value.slice A p.rs.length c) from rfl)
  have c1 := (HL.out.cell 1).trans (show _ = some (Value.slice B p.ts.length d) from rfl)
  have cl := HL.out.lt
  clear hbm
  obtain ⟨rb, hrb⟩ : ∃ rb, rightP p = rb := ⟨_, rfl⟩
  have HRB := Lib.hid hrb
  rw [hrb]
  clear hrb
  cases rb
  case false =>
    clear HRB
    go_wp2_with fail
    refine (awake_any _).mono ?_
    rintro e wz ⟨rfl, hbz⟩
    have hbz := HB.out.trans (hbz.mono HB.out.size)
    go_wp2
    go_ret
    exact ⟨rfl, hbz⟩
  by_cases h7 : 7 < p.ts.length
  · have e1 : decide ((7 : Int) < (p.ts.length : Int)) = true := decide_eq_true (by omega)
    have e2 : decide (7 < p.ts.length) = true := decide_eq_true h7
    clear h7
    go_wp2_with fail
    refine (awake_any _).mono ?_
    rintro e wz ⟨rfl, hbz⟩
    have hbz := HB.out.trans (hbz.mono HB.out.size)
    go_wp2
    go_ret
    exact ⟨rfl, hbz⟩
  have e3 : decide ((7 : Int) < (p.ts.length : Int)) = false := decide_eq_false (by omega)
  have e4 : decide (7 < p.ts.length) = false := decide_eq_false h7
  have HCP := Lib.hid (fun w (hw : Below W.heap.size W w) => rfCopy p A c B d w (HP.out.later hw) hf1 hf2 (fun l hl => by have := HF3.out l hl; omega))
  go_wp2_with fail
  refine (HCP.out _ HB.out).mono ?_
  intro e w3 hcp
  obtain ⟨vr, vt, vs, rfl, hro, hto, hin, hbm⟩ := hcp
  obtain ⟨A', c', rfl⟩ := own_slice hro
  obtain ⟨B', d', rfl⟩ := own_slice hto
  have hro := owns_mono hro HB.out.size
  have hto := owns_mono hto HB.out.size
  have hwm := HB.out.size
  clear HCP
  replace HB := Lib.hid (HB.out.trans ((hbm).mono HB.out.size))
  replace HL := Lib.hid (HL.out.below hbm HL.out.lt)
  clear c0 c1 cl
  have c0 := (HL.out.cell 0).trans (show _ = some (Value.slice A p.rs.length c) from rfl)
  have c1 := (HL.out.cell 1).trans (show _ = some (Value.slice B p.ts.length d) from rfl)
  have cl := HL.out.lt
  clear hbm
  have hbx : Below w3.heap.size w3 (w3.alloc (.cells #[.slice A' p.rs.length c', .slice B' p.ts.length d'] 25)) := (Below.refl _ _).alloc (Nat.le_refl _) _
  have HRO := Lib.hid (owned_below hro hbx)
  have HTO := Lib.hid (owned_below hto hbx)
  have HIN := Lib.hid (Inners.kept (S := noRow) hin (Kept.alloc noRow w3 (.cells #[.slice A' p.rs.length c', .slice B' p.ts.length d'] 25)) (fun _ _ _ _ h => h))
  have HQ := Lib.hid (Lies.made w3 25 #[.slice A' p.rs.length c', .slice B' p.ts.length d'])
  have HB' := Lib.hid (HB.out.trans (hbx.mono HB.out.size))
  have HL' := Lib.hid (HL.out.below hbx HL.out.lt)
  have hn5 := HL.out.lt
  have hn5s := hbx.size
  clear hro hto hin hbx HB HL
  go_upto_region 4 with (fail)
  clear c0 c1 cl
  generalize w3.alloc (.cells #[.slice A' p.rs.length c', .slice B' p.ts.length d'] 25) = w4 at *
  obtain ⟨n5, hn5e⟩ : ∃ n5, n5 = w3.heap.size := ⟨_, rfl⟩
  rw [← hn5e] at HQ hn5 hn5s ⊢
  clear hn5e
  have c0 := (HQ.out.cell 0).trans (show _ = some (Value.slice A' p.rs.length c') from rfl)
  have c1 := (HQ.out.cell 1).trans (show _ = some (Value.slice B' p.ts.length d') from rfl)
  have cl := HQ.out.lt
  have hbs := HB'.out.size
  go_wp2_with (at_builtin; refine append_one _ (.slice M m.length k) rfl (.tmp 39) (.tmp 41) 23 rfl W.heap.size 44 _ _ Try.underlying23 Try.infoTh rfl rfl _ _ _ rfl HTO.out rfl (by unfold maxLen; omega) (by omega) hbs ?_)
  intro v7 w7 ho7 hb7 hgr7
  have hk7 := kept_grown hgr7
  obtain ⟨N, hN⟩ : ∃ N, N = (p.ts ++ [m]).length := ⟨_, rfl⟩
  have hN1 : p.ts.length + 1 = N := by rw [hN]; simp
  rw [hN1] at ho7
  have HNE := Lib.hid hN
  clear hN hN1
  obtain ⟨B8, d8, rfl⟩ := own_slice ho7
  have hq7 := HQ.out.kept hk7 (fun hs => own_ne HTO.out HQ.out (by decide) hs)
  have hl7 := HL'.out.kept hk7 (fun hs => own_ne HTO.out HL'.out (by decide) hs)
  have hr7 := owns_kept HRO.out hk7 (fun r cur hr hl hs => own_ne HTO.out hl (by decide) hs)
  have hi7 := HIN.out.kept hk7 (fun r cur hr hl hs => own_ne HTO.out hl (by decide) hs)
  have hw7 := HB'.out.trans hb7
  have hp := Kept.put w7 n5 1 (.slice B8 N d8)
  have HQ8 := Lib.hid (hq7.put 1 (.slice B8 N d8))
  have HL8 := Lib.hid (hl7.kept hp (fun (e : W.heap.size = n5) => by omega))
  have HR8 := Lib.hid (owns_put hr7 hq7 (by decide) 1 (.slice B8 N d8))
  have HT8 := Lib.hid (owns_put ho7 hq7 (by decide) 1 (.slice B8 N d8))
  have HI8 := Lib.hid (hi7.kept hp (fun r cur hr hl (e : r = n5) => by subst e; exact absurd (hl.same hq7).1 (by decide)))
  have HB8 := Lib.hid (hw7.trans (hp.below hw7.size (fun k hk (e : k = n5) => by omega)))
  have q1 := (hq7.cell 1).trans (show _ = some (Value.slice B' p.ts.length d') from rfl)
  have f1 := hq7.free 1
  have ql := hq7.lt
  clear c0 c1 cl hk7 ho7 hb7 hgr7 hq7 hl7 hr7 hi7 hw7 hp HRO HTO HIN HQ HB' HL' hbs
  go_upto_region 5 with (fail)
  clear q1 f1 ql
  generalize w7.setCell ⟨n5, 1, none⟩ (.slice B8 N d8) = w8 at *
  have hpg := more_pg (M := M) (m := m) HR8.out HNE.out HT8.out HI8.out (HMI.out.later HB8.out)
  have hok8 : pgOk ⟨p.rs, p.ts ++ [m]⟩ := ⟨HOK.out.1, fun l hl x hx => by
    rcases List.mem_append.1 hl with h | h
    · exact HOK.out.2 l h x hx
    · simp at h; subst h; exact HMO.out x hx⟩
  have hok1 : pgOk ⟨p.rs, [m]⟩ := ⟨HOK.out.1, fun l hl x hx => by simp at hl; subst hl; exact HMO.out x hx⟩
  have hc := check_any ⟨p.rs, p.ts ++ [m]⟩ A' c' B8 d8 w8 hpg hok8
  rw [show pgC A' c' B8 d8 ⟨p.rs, p.ts ++ [m]⟩ = #[.slice A' p.rs.length c', .slice B8 N d8] by unfold pgC; rw [HNE.out]] at hc
  have HC := Lib.hid hc
  have HOK1 := Lib.hid hok1
  have HB := HB8
  have HL := HL8
  have c0 := (HQ8.out.cell 0).trans (show _ = some (Value.slice A' p.rs.length c') from rfl)
  have c1 := (HQ8.out.cell 1).trans (show _ = some (Value.slice B8 N d8) from rfl)
  have cl := HQ8.out.lt
  clear hpg hok8 hok1 hc HB8 HL8 HR8 HT8 HI8
  go_wp2_with fail
  refine HC.out.mono ?_
  rintro e w9 ⟨rfl, hbm⟩
  clear HC HQ8
  obtain ⟨T, K, E, h1, h2, h3⟩ := check_more (m := m) HRB.out (by omega)
  rw [h2]
  replace HB := Lib.hid (HB.out.trans ((hbm).mono HB.out.size))
  replace HL := Lib.hid (HL.out.below hbm HL.out.lt)
  clear c0 c1 cl
  have c0 := (HL.out.cell 0).trans (show _ = some (Value.slice A p.rs.length c) from rfl)
  have c1 := (HL.out.cell 1).trans (show _ = some (Value.slice B p.ts.length d) from rfl)
  have cl := HL.out.lt
  clear hbm
  have hbx : Below w9.heap.size w9 (w9.alloc (.cells #[.slice M m.length k] 44)) := (Below.refl _ _).alloc (Nat.le_refl _) _
  have HB2 := Lib.hid (HB.out.trans (hbx.mono HB.out.size))
  have hc := check_any ⟨p.rs, [m]⟩ A c (some ⟨w9.heap.size, 0, none⟩) 1 (w9.alloc (.cells #[.slice M m.length k] 44)) (one_pg (HP.out.later HB2.out).1 (Lies.made _ _ _) (HMI.out.later HB2.out)) HOK1.out
  rw [h1] at hc
  have HC := Lib.hid hc
  have HL2 := Lib.hid (HL.out.below hbx HL.out.lt)
  have H3 := Lib.hid h3
  clear hc hbx h1 h2 h3 HB
  dsimp only
  go_wp2_with fail
  refine HC.out.mono ?_
  rintro e w10 ⟨rfl, hbm⟩
  have HB3 := Lib.hid (HB2.out.trans (hbm.mono HB2.out.size))
  have HL3 := Lib.hid (HL2.out.below hbm HL2.out.lt)
  clear hbm HB2 HL2 HC HL c0 c1 cl
  have c1 := (HL3.out.cell 1).trans (show _ = some (Value.slice B p.ts.length d) from rfl)
  have cl := HL3.out.lt
  dsimp only
  rcases H3.out with h3 | h3
  · subst h3
    clear H3
    rw [show ((0 : Nat) : Int) = 0 from rfl]
    go_wp2
    go_ret
    exact ⟨ret_bool (by simp), HB3.out⟩
  · subst h3
    clear H3
    obtain ⟨eb, heb⟩ : ∃ eb, ((E : Int) == 0) = eb := ⟨_, rfl⟩
    have heb2 : (E == 0) = eb := by
      rw [← heb]
      by_cases h0 : E = 0
      · subst h0; rfl
      · rw [beq_eq_false_iff_ne.2 h0, beq_eq_false_iff_ne.2 (by omega : (E : Int) ≠ 0)]
    cases eb
    all_goals
      go_wp2
      go_ret
      exact ⟨ret_bool (by simp), HB3.out⟩
end Go.Proofs.Yteecfffgigaomaa
