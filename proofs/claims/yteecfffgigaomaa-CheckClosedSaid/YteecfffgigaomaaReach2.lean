/-
  check.Reach: its walk.
-/
import Derived.Test.YteecfffgigaomaaReach
import Derived.Test.YteecfffgigaomaaCopy2
namespace Go.Proofs.Yteecfffgigaomaa
open Go.RowKit
set_option linter.unusedVariables false
set_option linter.unusedSimpArgs false
theorem inBad_none {rs : List Ri} {n : Nat} : ∀ (l : List In) (k : Nat), inBad rs n l k = none → ∀ x ∈ l, instrE rs n x = 0
  | [], _, _ => by simp
  | x :: l, k, h => by
    unfold inBad at h
    by_cases e : instrE rs n x = 0
    · rw [if_pos e] at h
      intro y hy
      rcases List.mem_cons.1 hy with e2 | e2
      · rw [e2]; exact e
      · exact inBad_none l _ h y e2
    · rw [if_neg e] at h; cases h
theorem thBad_none {rs : List Ri} : ∀ (ts : List (List In)) (t : Nat), thBad rs ts t = none → ∀ l ∈ ts, l.length ≤ 256 ∧ ∀ x ∈ l, instrE rs l.length x = 0
  | [], _, _ => by simp
  | l :: ts, t, h => by
    unfold thBad at h
    by_cases e : 256 < l.length
    · rw [if_pos e] at h; cases h
    · rw [if_neg e] at h
      cases hb : inBad rs l.length l 0 with
      | some q => rw [hb] at h; cases h
      | none =>
        rw [hb] at h
        intro m hm
        rcases List.mem_cons.1 hm with e2 | e2
        · rw [e2]; exact ⟨by omega, inBad_none l 0 hb⟩
        · exact thBad_none ts _ h m e2
theorem instrE_zero {rs : List Ri} {n : Nat} {x : In} (h : instrE rs n x = 0) : rightB x = true ∧ (15 ≤ x.op → x.op ≤ 17 → x.k ≤ n) := by
  unfold instrE at h
  by_cases h1 : rightB x = false
  · rw [if_pos h1] at h; cases h
  · refine ⟨by simpa using h1, fun h2 h3 => ?_⟩
    rw [if_neg h1] at h
    have hj : jumpsB x.op = true := by unfold jumpsB; rw [decide_eq_true h2, decide_eq_true h3]; rfl
    by_cases h4 : jumpsB x.op = true ∧ n < x.k
    · rw [if_pos h4] at h; cases h
    · exact Nat.le_of_not_lt (fun h5 => h4 ⟨hj, h5⟩)
theorem rightP_all {p : Pg} (h : rightP p = true) : (p.ts.length ≠ 0 ∧ p.ts.length ≤ 8 ∧ p.rs.length ≤ 8) ∧ (∀ r ∈ p.rs, ringB r = true) ∧ ∀ l ∈ p.ts, l.length ≤ 256 ∧ okL l ∧ ∀ x ∈ l, instrE p.rs l.length x = 0 := by
  unfold rightP checkR at h
  by_cases h0 : p.ts.length = 0 ∨ 8 < p.ts.length ∨ 8 < p.rs.length
  · rw [if_pos h0] at h; simp at h
  · rw [if_neg h0] at h
    refine ⟨by omega, ?_⟩
    cases hr : riBad p.rs 0 with
    | some i => rw [hr] at h; simp at h
    | none =>
      rw [hr] at h
      refine ⟨riBad_none _ _ hr, ?_⟩
      cases ht : thBad p.rs p.ts 0 with
      | some q =>
        rw [ht] at h
        obtain ⟨t, k, e⟩ := q
        exfalso
        have hne : ∀ (ts : List (List In)) (t0 : Nat), thBad p.rs ts t0 = some (t, k, e) → e ≠ 0 := by
          intro ts
          induction ts with
          | nil => intro t0 h; cases h
          | cons l ts ih =>
            intro t0 h
            unfold thBad at h
            by_cases e2 : 256 < l.length
            · rw [if_pos e2] at h
              injection h with h
              injection h with _ h
              injection h with _ h
              omega
            · rw [if_neg e2] at h
              cases hb : inBad p.rs l.length l 0 with
              | none => rw [hb] at h; exact ih _ h
              | some q =>
                rw [hb] at h
                obtain ⟨k2, e3⟩ := q
                simp only [Option.some.injEq, Prod.mk.injEq] at h
                have hq : ∀ (m : List In) (k0 : Nat), inBad p.rs l.length m k0 = some (k2, e3) → e3 ≠ 0 := by
                  intro m
                  induction m with
                  | nil => intro k0 h; cases h
                  | cons x m ih2 =>
                    intro k0 h
                    unfold inBad at h
                    by_cases e4 : instrE p.rs l.length x = 0
                    · rw [if_pos e4] at h; exact ih2 _ h
                    · rw [if_neg e4] at h
                      injection h with h
                      injection h with _ h
                      omega
                have := hq l 0 hb
                omega
        have := hne _ _ ht
        simp at h
        omega
      | none =>
        intro l hl
        obtain ⟨h1, h2⟩ := thBad_none _ _ ht l hl
        exact ⟨h1, fun x hx h3 h4 => (instrE_zero (h2 x hx)).2 h3 h4, h2⟩
/-- What Reach leaves. -/
def RchPost (w : World) (p : Pg) (t : Int) (e : Ending) (w' : World) : Prop :=
  ∃ v, e = .returned (.tuple #[v, .int .i64 (namesE p t : Nat)]) ∧ Below w.heap.size w w' ∧ (namesE p t ≠ 0 → v = .slice none 0 0) ∧
    (namesE p t = 0 → ∀ l, p.ts[t.toNat]? = some l → w'.ownsRow w.heap.size 4 1 v (l.length + 1) (boolC (rchL l)))
theorem names_zero {p : Pg} {t : Int} (h : namesE p t = 0) : rightP p = true ∧ 0 ≤ t ∧ t < (p.ts.length : Int) := by
  unfold namesE at h
  by_cases h1 : rightP p = false
  · rw [if_pos h1] at h; cases h
  · rw [if_neg h1] at h
    by_cases h2 : t < 0 ∨ (p.ts.length : Int) ≤ t
    · rw [if_pos h2] at h; cases h
    · exact ⟨by simpa using h1, by omega, by omega⟩
set_option maxHeartbeats 8000000 in
set_option maxRecDepth 100000 in
theorem ckReach (p : Pg) (A : Option Addr) (c : Nat) (B : Option Addr) (d : Nat) (t : Int) (w : World) (h : PgAt w A c B d p) (hok : pgOk p) (ht : i64 t) :
    Calls Try.prog 15 #[.agg (pgC A c B d p), .int .i64 t] w (RchPost w p t) := by
  obtain ⟨hd1, hd2⟩ := h.2.form
  have hb0 : Below w.heap.size w (w.alloc (.cells (pgC A c B d p) 25)) := (Below.refl _ _).alloc (Nat.le_refl _) _
  have l0 := Lies.made w 25 (pgC A c B d p)
  have HC := Lib.hid (ckNames p A c B d _ t (h.later hb0) hok ht)
  have HH := Lib.hid h
  have HOK := Lib.hid hok
  have HB0 := Lib.hid hb0
  have HL0 := Lib.hid l0
  clear h hok hb0 l0
  go_enter Try.func15, Try.ntmps15
  go_wp2_with fail
  generalize w.alloc (.cells (pgC A c B d p) 25) = w1 at *
  refine HC.out.mono ?_
  rintro e w2 ⟨rfl, hb2⟩
  have HL2 := Lib.hid (HL0.out.below hb2 HL0.out.lt)
  have HB2 := Lib.hid (HB0.out.trans (hb2.mono HB0.out.size))
  clear HC HB0 HL0 hb2
  by_cases hE : namesE p t = 0
  case neg =>
    obtain ⟨E, hEE⟩ : ∃ E, namesE p t = E := ⟨_, rfl⟩
    have HE := Lib.hid hEE
    have e1 : ((E : Int) != 0) = true := by rw [bne_iff_ne]; omega
    rw [hEE] at hE ⊢
    clear hEE
    go_wp2
    go_ret2
    exact ⟨.slice none 0 0, by rw [HE.out]; rfl, HB2.out, fun _ => rfl, fun h => absurd h (by rw [HE.out]; exact hE)⟩
  obtain ⟨hr, ht0, ht1⟩ := names_zero hE
  obtain ⟨_, _, hall⟩ := rightP_all hr
  obtain ⟨tn, rfl⟩ : ∃ tn : Nat, t = tn := ⟨t.toNat, by omega⟩
  obtain ⟨l, hl⟩ : ∃ l, p.ts[tn]? = some l := ⟨_, List.getElem?_eq_getElem (by omega)⟩
  obtain ⟨h256, hokl, _⟩ := hall l (List.mem_of_getElem? hl)
  obtain ⟨b, off, B2, d2, rfl, g0w, hil⟩ := HH.out.2.at_ hl
  have g0 := (HB2.out.cell (p := ⟨b, off + tn, none⟩) (World.block_lt_of_cell? w _ g0w)).trans g0w
  clear g0w
  obtain ⟨hc3, hc4⟩ := seq_form hil
  have HIL := Lib.hid hil
  have HOKL := Lib.hid hokl
  have HE := Lib.hid hE
  have HLL := Lib.hid (show ∀ q, p.ts[(tn : Int).toNat]? = some q → q = l from fun q hq => by rw [Int.toNat_natCast, hl] at hq; injection hq with hq; exact hq.symm)
  rw [hE]
  have c1 := (HL2.out.cell 1).trans (show _ = some (Value.slice (some ⟨b, off, none⟩) p.ts.length d) from rfl)
  have c2 := HL2.out.lt
  clear hE hr hall hil hokl hl
  have hmk : ∀ W : World, (Instr.makeSlice 35 (.int .i64 ((l.length : Int) + 1)) (.int .i64 ((l.length : Int) + 1))).run Try.prog W = .ok (.slice (some ⟨W.heap.size, 0, none⟩) (l.length + 1) (l.length + 1)) (W.alloc (.cells (madeCells #[.bool false] (l.length + 1)) 4)) := fun W => by
    have := run_make_rowS (P := Try.prog) 35 4 (.bool false) 1 1 Try.underlying35 Try.infoBool .i64 .i64 (l.length + 1) (by omega) (by omega) W
    rw [Nat.mul_one] at this
    exact this
  go_upto_region 6 with (fail)
  have HB3 := Lib.hid (HB2.out.alloc HB2.out.size (.cells (madeCells #[.bool false] (l.length + 1)) 4))
  have HO3 := Lib.hid (owned_made w2 4 (.bool false) rfl (l.length + 1) (by unfold maxLen; omega))
  clear c1 c2 hmk g0 HL2
  have hw2 := HB2.out.size
  generalize w2.alloc (.cells (madeCells #[.bool false] (l.length + 1)) 4) = w3 at *
  have HO3b : Hid (w3.ownsRow w.heap.size 4 1 (.slice (some ⟨w2.heap.size, 0, none⟩) (l.length + 1) (l.length + 1)) (l.length + 1) (boolC (List.replicate (l.length + 1) false))) := by
    have := owns_mono HO3.out hw2
    show w3.ownsRow _ _ _ _ _ _
    unfold boolC
    rw [List.map_replicate]; exact this
  clear HO3
  generalize w2.heap.size = g8 at *
  have HB4 := Lib.hid (HB3.out.alloc HB3.out.size (.cells #[.int .i64 0] 3))
  have HO4 := Lib.hid (owned_below HO3b.out ((Below.refl w3.heap.size w3).alloc (Nat.le_refl _) (.cells #[.int .i64 0] 3)))
  have HP4 : Hid ((w3.alloc (.cells #[.int .i64 0] 3)).ownsRow w.heap.size 3 1 (.slice (some ⟨w3.heap.size, 0, none⟩) 1 1) [0].length (ints [0])) :=
    owns_mono (World.ownsRow_lit (base := w3.heap.size) (e := 3) (size := 1) w3 #[.int .i64 0] 1 (Nat.le_refl _) (by unfold maxLen; omega) rfl) HB3.out.size
  go_upto_region 7 with (fail)
  clear HB3 HO3b HB2
  generalize w3.alloc (.cells #[.int .i64 0] 3) = w4 at *
  generalize w3.heap.size = n4 at *
  go_wp2_with fail
  go_loopg [9, 10] (3 * (l.length + 1) + 1) (fun k O _ wr => ∃ (R : List Bool) (Ol : List Nat), k ≤ 3 * (l.length + 1) + 1 ∧ k = 3 * notYet R + Ol.length ∧ Hid (Dfs l R Ol) ∧ Hid (wr.ownsRow w.heap.size 4 1 (.slice (some ⟨g8, 0, none⟩) (l.length + 1) (l.length + 1)) (l.length + 1) (boolC R)) ∧ Hid (wr.ownsRow w.heap.size 3 1 O Ol.length (ints Ol)) ∧ Hid (Below w.heap.size w wr))
  case atStart => exact ⟨List.replicate (l.length + 1) false, [0], Nat.le_refl _, by unfold notYet; rw [List.countP_replicate]; simp, Dfs.start l, HO4.out, HP4.out, HB4.out⟩
  case round =>
    clear HO4 HP4 HB4
    obtain ⟨R, Ol, hgm, hgk, hD, hR, hO, hbw⟩ := hrel
    obtain ⟨A9, c9, rfl⟩ := own_slice hO.out
    by_cases hz : Ol.length = 0
    · obtain rfl : Ol = [] := List.length_eq_zero_iff.1 hz
      have hdone := hD.out.done HOKL.out
      have HR2 := hR
      rw [hdone] at HR2
      clear hgk hD hR hz hdone
      go_wp2
      go_ret2
      exact ⟨_, by rw [HE.out]; rfl, hbw.out, fun h => absurd HE.out h, fun _ q hq => by rw [HLL.out q hq]; exact HR2.out⟩
    obtain ⟨Ox, a, rfl⟩ : ∃ Ox a, Ol = Ox ++ [a] := ⟨Ol.dropLast, Ol.getLast (fun e => hz (by rw [e]; rfl)), (List.dropLast_concat_getLast _).symm⟩
    have hlen : (Ox ++ [a]).length = Ox.length + 1 := by simp
    rw [hlen] at hO hgk ⊢
    obtain ⟨g9, cap9, e9, hg9, hg9l, hcap, hcapm⟩ := ownsRow_open hO.out (by omega)
    simp only [Value.slice.injEq, true_and] at e9
    obtain ⟨rfl, rfl⟩ := e9
    unfold maxLen at hcapm
    have hal : a ≤ l.length := hD.out.le a (by simp)
    have q9 := owns_cell hO.out (k := Ox.length) (ints_get (n := a) (by simp))
    have HOX := Lib.hid (owns_front hO.out (k := Ox.length) (by omega))
    rw [ints_append, List.take_left' (ints_length _)] at HOX
    obtain ⟨bv, hbv⟩ : ∃ bv, R[a]? = some bv := ⟨_, List.getElem?_eq_getElem (by have := hD.out.len; omega)⟩
    have q8 := owns_cell hR.out (boolC_get hbv)
    have q8l := World.block_lt_of_cell? wr _ q8
    have hai : (a : Int) < (l.length : Int) + 1 := by omega
    have HBV := Lib.hid hbv
    have HGK := Lib.hid hgk
    obtain ⟨m, hm⟩ : ∃ m, Ox.length = m := ⟨_, rfl⟩
    rw [hm] at q9 HOX hcap ⊢
    have HM := Lib.hid hm
    have hm8 : m ≤ 1000 := by omega
    clear hO hbv hgk hlen hz hm
    cases bv
    case true =>
      have HDS := Lib.hid (hD.out.skip HBV.out)
      clear hD
      go_wp2
      go_roundg (3 * notYet R + Ox.length)
      case measure => have := HGK.out; have := HM.out; omega
      case rel => exact ⟨R, Ox, by have := HGK.out; have := HM.out; omega, rfl, HDS, hR, by rw [HM.out]; exact HOX, hbw⟩
    case false =>
      obtain ⟨hDM, hny⟩ := hD.out.mark HOKL.out HBV.out
      have HDM := Lib.hid hDM
      have HNY := Lib.hid hny
      have hlr : ∃ cur, Lies wr g8 4 cur := by
        rcases owns_row hR.out with ⟨e, _⟩ | ⟨r, cap, cur, e, _, hl, _⟩
        · cases e
        · simp only [Value.slice.injEq, Option.some.injEq, Addr.mk.injEq] at e
          obtain ⟨⟨rfl, _⟩, _⟩ := e
          exact ⟨cur, hl⟩
      obtain ⟨cur, hlr⟩ := hlr
      have f8 := owns_free hR.out (k := a) (by omega)
      have hset := owns_set (u := .bool true) hR.out (k := a) (by omega)
      rw [boolC_set] at hset
      have HR5 := Lib.hid hset
      have HOX5 := Lib.hid (owns_put HOX.out hlr (by decide) a (.bool true))
      have HB5 := Lib.hid (hbw.out.trans ((Kept.put wr g8 a (.bool true)).below hbw.out.size (fun k hk (e : k = g8) => by have := (own_lt hR.out (r := g8) rfl).1; omega)))
      clear hDM hny hD hset hlr hR hbw HOX
      go_upto_region 12 with (fail)
      clear q8 q8l q9 hg9l f8
      generalize wr.setCell ⟨g8, a, none⟩ (.bool true) = w5 at *
      by_cases hlt : a < l.length
      · have hli : (a : Int) < (l.length : Int) := by omega
        obtain ⟨x, hx⟩ : ∃ x, l[a]? = some x := ⟨_, List.getElem?_eq_getElem hlt⟩
        obtain ⟨b3, off3, rfl, _, hg⟩ := InsAt.at_ (HIL.out.later HB5.out) hx
        have y0 := hg 0 _ (by decide) rfl
        have y1 := hg 1 _ (by decide) rfl
        have y2 := hg 2 _ (by decide) rfl
        have y3 := hg 3 _ (by decide) rfl
        have y4 := hg 4 _ (by decide) rfl
        have y5 := hg 5 _ (by decide) rfl
        rw [Nat.add_zero] at y0
        have HNX := Lib.hid (nextL_some hx)
        have HS := Lib.hid (suc_any x a w5 (fun h1 h2 => by have := HOKL.out x (List.mem_of_getElem? hx) h1 h2; omega) (by omega))
        clear hg hx
        go_wp2_with fail
        refine HS.out.mono ?_
        rintro e w6 ⟨v, rfl, hseq, hb6⟩
        obtain ⟨A6, c6, rfl, hc6, hc7, hc8⟩ := hseq.form
        have hnx2 : (nextX x a).length ≤ 2 := by
          unfold nextX
          split
          · simp
          · split
            · simp
            · split <;> simp
        have HSEQ := Lib.hid hseq
        have HR6 := Lib.hid (owned_below HR5.out hb6)
        have HOX6 := Lib.hid (owned_below HOX5.out hb6)
        have HB6 := Lib.hid (HB5.out.trans (hb6.mono HB5.out.size))
        have hbs := HB6.out.size
        clear HR5 HOX5 HB5 hb6 hseq HS y0 y1 y2 y3 y4 y5
        go_wp2_with (at_builtin; refine append_argS w6 1 rfl (.tmp 52) (.tmp 58) 40 rfl w.heap.size 3 _ 8 Try.underlying40 Try.infoInt rfl (by decide) _ m (ints Ox) rfl HOX6.out A6 (nextX x a).length c6 rfl (ints (nextX x a)) HSEQ.out (ints_one _) (by unfold maxLen; omega) (by omega) hbs ?_)
        intro v7 w7 ho7 hb7 hgr7
        rw [← ints_append, ← HNX.out] at ho7
        have hk7 := Kept.of_grown hgr7
        have HR7 := Lib.hid (owns_kept HR6.out hk7 (fun r cur hr hl3 hs => own_ne HOX6.out hl3 (by decide) hs))
        have HO7 := Lib.hid ho7
        have HB7 := Lib.hid (HB6.out.trans hb7)
        have hlq : m + (nextL l a).length = (Ox ++ nextL l a).length := by rw [List.length_append, HM.out]
        rw [hlq] at HO7
        have hn2 : (nextL l a).length ≤ 2 := by rw [HNX.out]; exact hnx2
        have hdec : 3 * notYet (R.set a true) + (Ox ++ nextL l a).length < gk := by
          have := HGK.out; have := HNY.out; have := HM.out
          rw [List.length_append]; omega
        clear ho7 hb7 hgr7 hk7 HR6 HOX6 HB6 HSEQ hlq hn2 hnx2 hc6 hc7 hc8
        go_wp2
        go_roundg (3 * notYet (R.set a true) + (Ox ++ nextL l a).length)
        case measure => exact hdec
        case rel => exact ⟨R.set a true, Ox ++ nextL l a, by omega, rfl, HDM, HR7, HO7, HB7⟩
      · have hnl : ¬ (a : Int) < (l.length : Int) := by omega
        have hnx : nextL l a = [] := by unfold nextL; rw [List.getElem?_eq_none (by omega)]
        rw [hnx, List.append_nil] at HDM
        have hdec : 3 * notYet (R.set a true) + Ox.length < gk := by
          have := HGK.out; have := HNY.out; have := HM.out
          omega
        clear hnx
        go_wp2
        go_roundg (3 * notYet (R.set a true) + Ox.length)
        case measure => exact hdec
        case rel => exact ⟨R.set a true, Ox, by omega, rfl, HDM, HR5, by rw [HM.out]; exact HOX5, HB5⟩
end Go.Proofs.Yteecfffgigaomaa
