import Derived.Test.YteecfffgigaomaaLaw1
namespace Go.Proofs.Yteecfffgigaomaa
open Go.RowKit
set_option linter.unusedVariables false
set_option linter.unusedSimpArgs false
theorem filter_range_sorted (q : Nat → Bool) (n : Nat) : ((List.range n).filter q).Pairwise (· < ·) := List.Pairwise.filter _ (List.pairwise_lt_range)
theorem touchL_lt {l : List In} {i a b : Nat} (ha : (touchL l)[i]? = some a) (hb : (touchL l)[i + 1]? = some b) : a < b := by
  obtain ⟨h1, rfl⟩ := List.getElem?_eq_some_iff.1 ha
  obtain ⟨h2, rfl⟩ := List.getElem?_eq_some_iff.1 hb
  exact (List.pairwise_iff_getElem.1 (filter_range_sorted (touchTo l l.length) 8)) i (i + 1) h1 h2 (by omega)
/-- A ring that is touched is there. -/
theorem touch_in {rs : List Ri} {l : List In} (hins : ∀ x ∈ l, instrE rs l.length x = 0) {r : Nat} (h : r ∈ touchL l) : r < rs.length ∧ r < 8 ∧ ∃ x ∈ l, onRingB x.op = true := by
  unfold touchL at h
  obtain ⟨h1, h2⟩ := List.mem_filter.1 h
  unfold touchTo at h2
  obtain ⟨a, ha, ht⟩ := List.any_eq_true.1 h2
  have ha := List.mem_range.1 ha
  obtain ⟨x, hx⟩ : ∃ x, l[a]? = some x := ⟨_, List.getElem?_eq_getElem ha⟩
  rw [touchAt_get hx] at ht
  simp only [Bool.and_eq_true, beq_iff_eq] at ht
  have hm := List.mem_of_getElem? hx
  have h3 := hins x hm
  unfold instrE at h3
  by_cases e1 : rightB x = false
  · rw [if_pos e1] at h3; cases h3
  rw [if_neg e1] at h3
  split at h3
  · cases h3
  rw [ht.2.1, if_neg (by decide)] at h3
  by_cases e2 : (rs.length : Int) ≤ x.c
  · rw [if_pos e2] at h3; cases h3
  · exact ⟨by omega, List.mem_range.1 h1, x, hm, ht.2.1⟩
theorem touch_none {rs : List Ri} {l : List In} (hins : ∀ x ∈ l, instrE rs l.length x = 0) (h : l.any (fun x => onRingB x.op) = false) : touchL l = [] := by
  cases hq : touchL l with
  | nil => rfl
  | cons r rest =>
    obtain ⟨_, _, x, hx, ho⟩ := touch_in hins (r := r) (by rw [hq]; simp)
    rw [List.any_eq_false] at h
    exact absurd ho (h x hx)
theorem any_next {q : In → Bool} {l : List In} {i : Nat} {x : In} (h : l[i]? = some x) : (l.take (i + 1)).any q = ((l.take i).any q || q x) := by
  rw [List.take_add_one, h, Option.toList_some, List.any_append]; simp
set_option maxHeartbeats 8000000 in
set_option maxRecDepth 100000 in
theorem touches_walk (z : Pa) (t : Int) (W : World) (h : PaAt W z) (ht : (Lit.int .i64 t).wf = true) :
    Calls Try.prog 6 #[.agg (pgC z.A z.c z.B z.d z.p), .int .i64 t] W fun e w' => e = .returned (.bool true) ∧ Below W.heap.size W w' := by
  have hti := Go.bounds_i64 ht
  clear ht
  obtain ⟨A, c, B, d, p⟩ := z
  obtain ⟨hp, hok⟩ := h
  replace hp : PgAt W A c B d p := hp
  replace hok : pgOk p := hok
  obtain ⟨hc1, hc2⟩ := seq_form hp.1
  obtain ⟨hd1, hd2⟩ := hp.2.form
  have hb0 : Below W.heap.size W (W.alloc (.cells (pgC A c B d p) 25)) := (Below.refl _ _).alloc (Nat.le_refl _) _
  have l0 := Lies.made W 25 (pgC A c B d p)
  have HP := Lib.hid hp
  have HOK := Lib.hid hok
  have HB := Lib.hid hb0
  have HL := Lib.hid l0
  clear hp hok hb0 l0
  go_enter Try.func6, Try.ntmps6
  go_wp2_with fail
  generalize W.alloc (.cells (pgC A c B d p) 25) = w1 at *
  have c0 := (HL.out.cell 0).trans (show _ = some (Value.slice A p.rs.length c) from rfl)
  have c1 := (HL.out.cell 1).trans (show _ = some (Value.slice B p.ts.length d) from rfl)
  have cl := HL.out.lt
  refine (awake_any _).mono ?_
  rintro e w2 ⟨rfl, hbm⟩
  replace HB := Lib.hid (HB.out.trans ((hbm).mono HB.out.size))
  replace HL := Lib.hid (HL.out.below hbm HL.out.lt)
  clear c0 c1 cl
  have c0 := (HL.out.cell 0).trans (show _ = some (Value.slice A p.rs.length c) from rfl)
  have c1 := (HL.out.cell 1).trans (show _ = some (Value.slice B p.ts.length d) from rfl)
  have cl := HL.out.lt
  clear hbm
  go_wp2_with fail
  have HF := Lib.hid (fun w (hw : Below W.heap.size W w) => rfFew p 100 A c B d w (HP.out.later hw) (by omega))
  refine (HF.out _ HB.out).mono ?_
  rintro e wf ⟨rfl, hbm⟩
  clear HF
  replace HB := Lib.hid (HB.out.trans ((hbm).mono HB.out.size))
  replace HL := Lib.hid (HL.out.below hbm HL.out.lt)
  clear c0 c1 cl
  have c0 := (HL.out.cell 0).trans (show _ = some (Value.slice A p.rs.length c) from rfl)
  have c1 := (HL.out.cell 1).trans (show _ = some (Value.slice B p.ts.length d) from rfl)
  have cl := HL.out.lt
  clear hbm
  obtain ⟨fb, hfb⟩ : ∃ fb, fewB p 100 = fb := ⟨_, rfl⟩
  have HFB := Lib.hid hfb
  rw [hfb]
  clear hfb
  cases fb
  case false =>
    clear HFB
    go_wp2_with fail
    refine (awake_any _).mono ?_
    rintro e wz ⟨rfl, hbz⟩
    have hbz := HB.out.trans (hbz.mono HB.out.size)
    go_wp2
    go_ret
    exact ⟨rfl, hbz⟩
  obtain ⟨hf1, hf2, hf3, hf4⟩ := of_decide_eq_true HFB.out
  have HF3 := Lib.hid hf3
  clear hf3 HFB
  have HR := Lib.hid (fun w (hw : Below W.heap.size W w) => r11Right p A c B d w (HP.out.later hw) HOK.out)
  go_wp2_with fail
  refine (HR.out _ HB.out).mono ?_
  rintro e wr2 ⟨rfl, hbm⟩
  clear HR
  replace HB := Lib.hid (HB.out.trans ((hbm).mono HB.out.size))
  replace HL := Lib.hid (HL.out.below hbm HL.out.lt)
  clear c0 c1 cl
  have c0 := (HL.out.cell 0).trans (show _ = some (Value.slice A p.rs.length c) from rfl)
  have c1 := (HL.out.cell 1).trans (show _ = some (Value.slice B p.ts.length d) from rfl)
  have cl := HL.out.lt
  clear hbm
  obtain ⟨rb, hrb⟩ : ∃ rb, rightP p = rb := ⟨_, rfl⟩
  have HRB := Lib.hid hrb
  rw [hrb]
  clear hrb
  cases rb
  case false =>
    clear HRB
    go_wp2_with fail
    refine (awake_any _).mono ?_
    rintro e wz ⟨rfl, hbz⟩
    have hbz := HB.out.trans (hbz.mono HB.out.size)
    go_wp2
    go_ret
    exact ⟨rfl, hbz⟩
  by_cases ht0 : t < 0
  · have e1 : decide (t < 0) = true := by simpa using ht0
    clear ht0
    go_wp2_with fail
    refine (awake_any _).mono ?_
    rintro e wz ⟨rfl, hbz⟩
    have hbz := HB.out.trans (hbz.mono HB.out.size)
    go_wp2
    go_ret
    exact ⟨rfl, hbz⟩
  have e1 : decide (t < 0) = false := by simpa using ht0
  by_cases ht1 : (p.ts.length : Int) ≤ t
  · have e2 : decide ((p.ts.length : Int) ≤ t) = true := by simpa using ht1
    clear ht1
    go_wp2_with fail
    refine (awake_any _).mono ?_
    rintro e wz ⟨rfl, hbz⟩
    have hbz := HB.out.trans (hbz.mono HB.out.size)
    go_wp2
    go_ret
    exact ⟨rfl, hbz⟩
  have e2 : decide ((p.ts.length : Int) ≤ t) = false := by simpa using ht1
  obtain ⟨tn, rfl⟩ : ∃ tn : Nat, t = tn := ⟨t.toNat, by omega⟩
  have htn : tn < p.ts.length := by omega
  obtain ⟨l, hl⟩ : ∃ l, p.ts[tn]? = some l := ⟨_, List.getElem?_eq_getElem htn⟩
  obtain ⟨⟨_, hts8, hrs8⟩, _, hall⟩ := rightP_all HRB.out
  obtain ⟨h256, hokl, hins⟩ := hall l (List.mem_of_getElem? hl)
  obtain ⟨b, off, B2, d2, hBe, g0w, hil⟩ := HP.out.2.at_ hl
  subst hBe
  obtain ⟨hc3, hc4⟩ := seq_form hil
  have hbl := World.block_lt_of_cell? W _ g0w
  have HG := Lib.hid (fun w (hw : Below W.heap.size W w) => (hw.cell (p := ⟨b, off + tn, none⟩) hbl).trans g0w)
  have HIL := Lib.hid hil
  have HOKL := Lib.hid hokl
  have HINS := Lib.hid hins
  have HNE : Hid (namesE p (tn : Int) = 0) := by
    show namesE p (tn : Int) = 0
    unfold namesE
    rw [HRB.out, if_neg (by decide), if_neg (by omega)]
  have HL2 := Lib.hid (show p.ts[(tn : Int).toNat]? = some l by rw [Int.toNat_natCast]; exact hl)
  have HLM := Lib.hid hl
  clear hall hokl hil g0w hins hl
  have HC := Lib.hid (fun w (hw : Below W.heap.size W w) => ckTouches p A c (some ⟨b, off, none⟩) d (tn : Int) w (HP.out.later hw) HOK.out hti)
  go_wp2_with fail
  refine (HC.out _ HB.out).mono ?_
  rintro e w5 ⟨v, rfl, hbm, _, hv⟩
  have hown := hv HNE.out l HL2.out
  have HO := Lib.hid (owns_mono hown HB.out.size)
  rw [HNE.out]
  clear HC hv hown
  replace HB := Lib.hid (HB.out.trans ((hbm).mono HB.out.size))
  replace HL := Lib.hid (HL.out.below hbm HL.out.lt)
  clear c0 c1 cl
  have c0 := (HL.out.cell 0).trans (show _ = some (Value.slice A p.rs.length c) from rfl)
  have c1 := (HL.out.cell 1).trans (show _ = some (Value.slice (some ⟨b, off, none⟩) p.ts.length d) from rfl)
  have cl := HL.out.lt
  clear hbm
  obtain ⟨Av, cv, rfl⟩ := own_slice HO.out
  have hv8 : (touchL l).length ≤ 8 := by
    unfold touchL
    exact Nat.le_trans (List.length_filter_le _ _) (by simp)
  have g0 := HG.out _ HB.out
  clear ht0 ht1
  go_wp2_with fail
  clear g0
  go_loopw [48, 7] (fun u s wr => ∃ i : Nat, i ≤ l.length ∧ u = .int .i64 i ∧ s = .bool ((l.take i).any (fun x => onRingB x.op)) ∧ Hid (wr.ownsRow W.heap.size 3 1 (.slice Av (touchL l).length cv) (touchL l).length (ints (touchL l))) ∧ Hid (Lies wr W.heap.size 25 (pgC A c (some ⟨b, off, none⟩) d p)) ∧ Hid (Below W.heap.size W wr)) (fun u _ _ => l.length - (intOf u).toNat)
  case atStart => exact ⟨0, by omega, rfl, rfl, HO, HL, HB⟩
  case round =>
    clear HO HL HB c0 c1 cl
    obtain ⟨i, hi, rfl, rfl, hO, hL, hB⟩ := hrel
    by_cases hlt : i < l.length
    · have hii : (i : Int) < (l.length : Int) := by omega
      obtain ⟨x, hx⟩ : ∃ x, l[i]? = some x := ⟨_, List.getElem?_eq_getElem hlt⟩
      obtain ⟨b3, off3, hBe, _, hg⟩ := InsAt.at_ (HIL.out.later hB.out) hx
      subst hBe
      have y0 := hg 0 _ (by decide) rfl
      have y1 := hg 1 _ (by decide) rfl
      have y2 := hg 2 _ (by decide) rfl
      have y3 := hg 3 _ (by decide) rfl
      have y4 := hg 4 _ (by decide) rfl
      have y5 := hg 5 _ (by decide) rfl
      rw [Nat.add_zero] at y0
      have hbx : Below wr.heap.size wr (wr.alloc (.cells (inC x) 48)) := (Below.refl _ _).alloc (Nat.le_refl _) _
      have HO2 := Lib.hid (owned_below hO.out hbx)
      have HL3 := Lib.hid (hL.out.alloc (.cells (inC x) 48))
      have HB2 := Lib.hid (hB.out.alloc hB.out.size (.cells (inC x) 48))
      have hnx := any_next (q := fun x => onRingB x.op) hx
      obtain ⟨sb, hsb⟩ : ∃ sb, (l.take i).any (fun x => onRingB x.op) = sb := ⟨_, rfl⟩
      obtain ⟨o1, h1⟩ : ∃ q, (x.op == 18) = q := ⟨_, rfl⟩
      obtain ⟨o2, h2⟩ : ∃ q, (x.op == 19) = q := ⟨_, rfl⟩
      obtain ⟨o3, h3⟩ : ∃ q, (x.op == 20) = q := ⟨_, rfl⟩
      have hor : onRingB x.op = (o1 || (o2 || o3)) := by unfold onRingB; rw [h1, h2, h3]
      rw [hsb, hor] at hnx
      rw [hsb]
      have HNX := Lib.hid hnx
      clear hnx hsb hor hg hx hbx hO hL hB
      cases sb
      case true =>
        go_wp2
        go_roundw
        case rel => exact ⟨i + 1, by omega, by go_num, by rw [HNX.out]; rfl, HO2, HL3, HB2⟩
        case measure => simp [intOf]; omega
      cases o1
      case true =>
        go_wp2
        go_roundw
        case rel => exact ⟨i + 1, by omega, by go_num, by rw [HNX.out]; rfl, HO2, HL3, HB2⟩
        case measure => simp [intOf]; omega
      cases o2
      case true =>
        go_wp2
        go_roundw
        case rel => exact ⟨i + 1, by omega, by go_num, by rw [HNX.out]; rfl, HO2, HL3, HB2⟩
        case measure => simp [intOf]; omega
      go_wp2
      go_roundw
      case rel => exact ⟨i + 1, by omega, by go_num, by rw [HNX.out]; rfl, HO2, HL3, HB2⟩
      case measure => simp [intOf]; omega
    · obtain rfl : i = l.length := by omega
      rw [List.take_length]
      obtain ⟨sb, hsb⟩ : ∃ sb, l.any (fun x => onRingB x.op) = sb := ⟨_, rfl⟩
      have HEND : Hid (sb = true ∨ touchL l = []) := by
        cases sb
        · exact .inr (touch_none HINS.out hsb)
        · exact .inl rfl
      rw [hsb]
      have c0 := (hL.out.cell 0).trans (show _ = some (Value.slice A p.rs.length c) from rfl)
      have cl := hL.out.lt
      have HTI := Lib.hid (fun r (hr : r ∈ touchL l) => touch_in HINS.out hr)
      have HTL := Lib.hid (fun i a b => @touchL_lt l i a b)
      clear hsb
      generalize touchL l = T at *
      go_wp2_with fail
      go_loopw [71] (fun u wq => ∃ k : Nat, k ≤ T.length ∧ u = .int .i64 k ∧ wq = wr) (fun u _ => T.length - (intOf u).toNat)
      case atStart => exact ⟨0, by omega, rfl, rfl⟩
      case round =>
        obtain ⟨k, hk, rfl, rfl⟩ := hrel
        by_cases hkl : k < T.length
        · have hki : (k : Int) < (T.length : Int) := by omega
          obtain ⟨r, hr⟩ : ∃ r, T[k]? = some r := ⟨_, List.getElem?_eq_getElem hkl⟩
          obtain ⟨g9, cap9, e9, hg9, hg9l, hcap, hcapm, hcell⟩ := ownsRow_open hO.out (by omega)
          simp only [Value.slice.injEq, true_and] at e9
          obtain ⟨hAe, hce⟩ := e9
          subst hAe
          subst hce
          have q9 := hcell k _ (ints_get hr)
          obtain ⟨hr1, hr2, _⟩ := HTI.out r (List.mem_of_getElem? hr)
          have e3 : decide ((r : Int) < 0) = false := by simp
          have e4 : decide ((p.rs.length : Int) ≤ (r : Int)) = false := by simp; omega
          have e5 : decide (p.rs.length ≤ r) = false := by simp; omega
          by_cases hk0 : k = 0
          · subst hk0
            have e6 : decide ((0 : Int) < (0 : Nat)) = false := by simp
            clear hcell
            go_wp2
            go_roundw
            case rel => exact ⟨0 + 1, by omega, by go_num, trivial⟩
            case measure => simp [intOf]; omega
          · obtain ⟨j, rfl⟩ : ∃ j, k = j + 1 := ⟨k - 1, by omega⟩
            obtain ⟨r0, hr0⟩ : ∃ r0, T[j]? = some r0 := ⟨_, List.getElem?_eq_getElem (by omega)⟩
            have q8 := hcell j _ (ints_get hr0)
            have hlt0 := HTL.out j r0 r hr0 hr
            have e6 : decide ((0 : Int) < ((j + 1 : Nat) : Int)) = true := by simp
            have e6b : decide ((0 : Int) < (j : Int) + 1) = true := decide_eq_true (by omega)
            have e7 : decide ((r : Int) ≤ (r0 : Int)) = false := decide_eq_false (by omega)
            have e8 : decide (r ≤ r0) = false := decide_eq_false (by omega)
            clear hcell hk0
            go_wp2
            go_roundw
            case rel => exact ⟨j + 1 + 1, by omega, by go_num, trivial⟩
            case measure => simp [intOf]; omega
        · obtain rfl : k = T.length := by omega
          cases sb
          case true =>
            go_wp2
            go_ret
            exact ⟨rfl, hB.out⟩
          case false =>
            have hT0 := HEND.out.resolve_left (by decide)
            have e9 : ((T.length : Int) == 0) = true := by rw [hT0]; rfl
            clear HEND hT0
            go_wp2
            go_ret
            exact ⟨ret_bool (by simp), hB.out⟩
end Go.Proofs.Yteecfffgigaomaa
