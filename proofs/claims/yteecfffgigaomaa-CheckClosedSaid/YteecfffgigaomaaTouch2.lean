/-
  check.Touches: its walk.
-/
import Derived.Test.YteecfffgigaomaaTouch
namespace Go.Proofs.Yteecfffgigaomaa
open Go.RowKit
set_option linter.unusedVariables false
set_option linter.unusedSimpArgs false
def TouPost (w : World) (p : Pg) (t : Int) (e : Ending) (w' : World) : Prop :=
  ∃ v, e = .returned (.tuple #[v, .int .i64 (namesE p t : Nat)]) ∧ Below w.heap.size w w' ∧ (namesE p t ≠ 0 → v = .slice none 0 0) ∧
    (namesE p t = 0 → ∀ l, p.ts[t.toNat]? = some l → w'.ownsRow w.heap.size 3 1 v (touchL l).length (ints (touchL l)))
abbrev bZ8 : Array Value := #[.bool false, .bool false, .bool false, .bool false, .bool false, .bool false, .bool false, .bool false]
theorem bool8 {L : List Bool} (h : L.length = 8) : ∃ a b c d e f g i, L = [a, b, c, d, e, f, g, i] := by
  match L, h with
  | [a, b, c, d, e, f, g, i], _ => exact ⟨a, b, c, d, e, f, g, i, rfl⟩
theorem filter_next (q : Nat → Bool) (k : Nat) : (List.range (k + 1)).filter q = (List.range k).filter q ++ (if q k then [k] else []) := by
  rw [List.range_succ, List.filter_append]
  congr 1
  by_cases h : q k = true
  · simp [h]
  · simp [h]
set_option maxHeartbeats 8000000 in
set_option maxRecDepth 100000 in
theorem ckTouches (p : Pg) (A : Option Addr) (c : Nat) (B : Option Addr) (d : Nat) (t : Int) (w : World) (h : PgAt w A c B d p) (hok : pgOk p) (ht : i64 t) :
    Calls Try.prog 17 #[.agg (pgC A c B d p), .int .i64 t] w (TouPost w p t) := by
  obtain ⟨hd1, hd2⟩ := h.2.form
  have hb0 : Below w.heap.size w (w.alloc (.cells (pgC A c B d p) 25)) := (Below.refl _ _).alloc (Nat.le_refl _) _
  have l0 := Lies.made w 25 (pgC A c B d p)
  have HC := Lib.hid (ckReach p A c B d t _ (h.later hb0) hok ht)
  have HH := Lib.hid h
  have HB0 := Lib.hid hb0
  have HL0 := Lib.hid l0
  clear h hok hb0 l0
  go_enter Try.func17, Try.ntmps17
  go_wp2_with fail
  generalize w.alloc (.cells (pgC A c B d p) 25) = w1 at *
  refine HC.out.mono ?_
  rintro e w2 ⟨v, rfl, hb2, hv1, hv2⟩
  have HL2 := Lib.hid (HL0.out.below hb2 HL0.out.lt)
  have HB2 := Lib.hid (HB0.out.trans (hb2.mono HB0.out.size))
  have hw1 := HB0.out.size
  clear HC HB0 HL0 hb2
  by_cases hE : namesE p t = 0
  case neg =>
    have hv := hv1 hE
    subst hv
    obtain ⟨E, hEE⟩ : ∃ E, namesE p t = E := ⟨_, rfl⟩
    have HE := Lib.hid hEE
    have e1 : ((E : Int) != 0) = true := by rw [bne_iff_ne]; omega
    rw [hEE] at hE ⊢
    clear hEE hv1 hv2
    go_wp2
    go_ret2
    exact ⟨.slice none 0 0, by rw [HE.out]; rfl, HB2.out, fun _ => rfl, fun h => absurd h (by rw [HE.out]; exact hE)⟩
  obtain ⟨hr, ht0, ht1⟩ := names_zero hE
  obtain ⟨_, _, hall⟩ := rightP_all hr
  obtain ⟨tn, rfl⟩ : ∃ tn : Nat, t = tn := ⟨t.toNat, by omega⟩
  obtain ⟨l, hl⟩ : ∃ l, p.ts[tn]? = some l := ⟨_, List.getElem?_eq_getElem (by omega)⟩
  obtain ⟨h256, hokl, hins⟩ := hall l (List.mem_of_getElem? hl)
  have hown := hv2 hE l (by rw [Int.toNat_natCast]; exact hl)
  obtain ⟨g8, cap8, rfl, hg8, hg8l, hcap8, hcm8, _⟩ := ownsRow_open hown (by omega)
  unfold maxLen at hcm8
  obtain ⟨b, off, B2, d2, rfl, g0w, hil⟩ := HH.out.2.at_ hl
  have hbx := (Below.refl w2.heap.size w2).alloc (Nat.le_refl _) (.cells bZ8 62)
  have g0 := ((HB2.out.trans (hbx.mono HB2.out.size)).cell (p := ⟨b, off + tn, none⟩) (World.block_lt_of_cell? w _ g0w)).trans g0w
  obtain ⟨hc3, hc4⟩ := seq_form hil
  have HIL := Lib.hid hil
  have HINS := Lib.hid hins
  have HE := Lib.hid hE
  have HLL := Lib.hid (show ∀ q, p.ts[(tn : Int).toNat]? = some q → q = l from fun q hq => by rw [Int.toNat_natCast, hl] at hq; injection hq with hq; exact hq.symm)
  rw [hE]
  have HL3 := Lib.hid (HL2.out.alloc (.cells bZ8 62))
  have HO3 := Lib.hid (owned_below hown hbx)
  have HB3 := Lib.hid (HB2.out.trans (hbx.mono HB2.out.size))
  have HN3 := Lib.hid (Lies.made w2 62 bZ8)
  have hn3 := HB2.out.size
  clear hE hr hall hil hokl hl hown hv1 hv2 g0w hins hbx HB2 HL2
  go_upto_region 5 with (fail)
  generalize w2.alloc (.cells bZ8 62) = w3 at *
  generalize w2.heap.size = n3 at *
  have c1 := (HL3.out.cell 1).trans (show _ = some (Value.slice (some ⟨b, off, none⟩) p.ts.length d) from rfl)
  have c2 := HL3.out.lt
  go_wp2_with fail
  clear c1 c2 g0 HL3
  have HN4 : Hid (Lies w3 n3 62 (boolC (touchN l 0)).toArray) := by rw [touchN_zero]; exact HN3.out
  clear HN3
  go_loopw [29] (fun u wr => ∃ i : Nat, i ≤ l.length ∧ u = .int .i64 i ∧ Hid (Lies wr n3 62 (boolC (touchN l i)).toArray) ∧ Hid (wr.ownsRow w1.heap.size 4 1 (.slice (some ⟨g8, 0, none⟩) (l.length + 1) cap8) (l.length + 1) (boolC (rchL l))) ∧ Hid (Below w.heap.size w wr)) (fun u _ => l.length - (intOf u).toNat)
  case atStart => exact ⟨0, by omega, rfl, HN4, HO3, HB3⟩
  case round =>
    clear HN4 HO3 HB3
    obtain ⟨i, hi, rfl, hN, hO, hb⟩ := hrel
    by_cases hlt : i < l.length
    · have hii : (i : Int) < (l.length : Int) := by omega
      obtain ⟨x, hx⟩ : ∃ x, l[i]? = some x := ⟨_, List.getElem?_eq_getElem hlt⟩
      obtain ⟨b3, off3, rfl, _, hg⟩ := InsAt.at_ (HIL.out.later hb.out) hx
      have y0 := hg 0 _ (by decide) rfl
      have y1 := hg 1 _ (by decide) rfl
      have y2 := hg 2 _ (by decide) rfl
      have y3 := hg 3 _ (by decide) rfl
      have y4 := hg 4 _ (by decide) rfl
      have y5 := hg 5 _ (by decide) rfl
      rw [Nat.add_zero] at y0
      have hbx : Below wr.heap.size wr (wr.alloc (.cells (inC x) 48)) := (Below.refl _ _).alloc (Nat.le_refl _) _
      have HO5 := Lib.hid (owned_below hO.out hbx)
      have q8 := owns_cell HO5.out (boolC_get (rchL_get (l := l) (a := i) hi))
      have q8l := World.block_lt_of_cell? _ _ q8
      have HB5 := Lib.hid (hb.out.trans (hbx.mono hb.out.size))
      have HN5 := Lib.hid (hN.out.alloc (.cells (inC x) 48))
      have HLX := Lib.hid (Lies.made wr 48 (inC x))
      have HRI := Lib.hid (fun h => right_ring (instrE_zero (HINS.out x (List.mem_of_getElem? hx))).1 h)
      have HX := Lib.hid hx
      obtain ⟨rb, hrb⟩ : ∃ rb, rchB l i = rb := ⟨_, rfl⟩
      rw [hrb] at q8
      have HRB := Lib.hid hrb
      clear hg hx hbx hrb hb hO hN
      go_upto_region 8 with (fail)
      clear y0 y1 y2 y3 y4 y5
      generalize wr.alloc (.cells (inC x) 48) = w5 at *
      generalize wr.heap.size = n5 at *
      have x0 := (HLX.out.cell 0).trans (show _ = some (Value.int .i64 x.op) from rfl)
      have x1 := (HLX.out.cell 1).trans (show _ = some (Value.int .i64 x.a) from rfl)
      have x2 := (HLX.out.cell 2).trans (show _ = some (Value.int .i64 x.b) from rfl)
      have x3 := (HLX.out.cell 3).trans (show _ = some (Value.int .i64 x.c) from rfl)
      have x4 := (HLX.out.cell 4).trans (show _ = some (Value.int .i64 x.d) from rfl)
      have x5 := (HLX.out.cell 5).trans (show _ = some (Value.int .u64 (x.k : Int)) from rfl)
      have hxl := HLX.out.lt
      cases rb
      case false =>
        have hsame := touchN_same HX.out (by rw [HRB.out, Bool.false_and])
        rw [← hsame] at HN5
        clear hsame
        go_wp2
        go_roundw
        case rel => exact ⟨i + 1, by omega, by go_num, HN5, HO5, HB5⟩
        case measure => simp [intOf]; omega
      go_wp2_with fail
      refine (onRing_any x _).mono ?_
      rintro e w6 ⟨rfl, hb6⟩
      have HN6 := Lib.hid (HN5.out.below hb6 HN5.out.lt)
      have HO6 := Lib.hid (owned_below HO5.out hb6)
      have HB6 := Lib.hid (HB5.out.trans (hb6.mono HB5.out.size))
      have HLX6 := Lib.hid (HLX.out.below hb6 HLX.out.lt)
      clear x0 x1 x2 x3 x4 x5 hxl q8 q8l hb6 HN5 HO5 HB5 HLX
      by_cases hon : onRingB x.op = true
      · obtain ⟨hc0, hc7⟩ := HRI.out hon
        obtain ⟨cn, hcn⟩ : ∃ cn : Nat, x.c = cn := ⟨x.c.toNat, by omega⟩
        have hcn8 : cn < 8 := by omega
        have hset := touchN_set HX.out HRB.out hon hcn hcn8
        have x3 := (HLX6.out.cell 3).trans (show _ = some (Value.int .i64 x.c) from rfl)
        rw [hcn] at x3
        have hxl := HLX6.out.lt
        have hnl := HN6.out.lt
        have f3 := HN6.out.free cn
        obtain ⟨tv, htv⟩ : ∃ tv, (touchN l i)[cn]? = some tv := ⟨_, List.getElem?_eq_getElem (by rw [touchN_length]; omega)⟩
        have q3 := (HN6.out.cell cn).trans (show _ = some (Value.bool tv) by rw [List.getElem?_toArray]; exact boolC_get htv)
        have hci : (cn : Int) < 8 := by omega
        have hp := HN6.out.put cn (.bool true)
        have HNS : Hid (Lies (w6.setCell ⟨n3, cn, none⟩ (.bool true)) n3 62 (boolC (touchN l (i + 1))).toArray) := by
          show Lies _ _ _ _
          rw [hset, ← boolC_set, ← List.setIfInBounds_toArray]; exact hp
        have HOS := Lib.hid (owns_put HO6.out HN6.out (by decide) cn (.bool true))
        have HBS := Lib.hid (HB6.out.trans ((Kept.put w6 n3 cn (.bool true)).below HB6.out.size (fun k hk (e : k = n3) => by omega)))
        rw [hon]
        clear hset hp htv hon hcn HN6 HO6 HB6 HLX6 hc0 hc7
        go_wp2
        go_roundw
        case rel => exact ⟨i + 1, by omega, by go_num, HNS, HOS, HBS⟩
        case measure => simp [intOf]; omega
      · have hon : onRingB x.op = false := by simpa using hon
        have hsame := touchN_same HX.out (by rw [hon, Bool.and_false])
        rw [← hsame] at HN6
        rw [hon]
        clear hsame hon
        go_wp2
        go_roundw
        case rel => exact ⟨i + 1, by omega, by go_num, HN6, HO6, HB6⟩
        case measure => simp [intOf]; omega
    · obtain rfl : i = l.length := by omega
      obtain ⟨L, hL⟩ : ∃ L, touchN l l.length = L := ⟨_, rfl⟩
      have hL8 : L.length = 8 := by rw [← hL]; exact touchN_length _ _
      have HGET : Hid (∀ r, r < 8 → L[r]? = some (touchTo l l.length r)) := fun r hr => by rw [← hL]; exact touchN_get hr
      rw [hL] at hN
      have hrg : wr.rangeAt n3 0 (boolC L) := fun j v hv => by rw [Nat.zero_add, hN.out.cell, List.getElem?_toArray]; exact hv
      have HRG := Lib.hid hrg
      have HI8 := Lib.hid (show (Try.prog.info? 62).map (·.size) = some (boolC L).length by rw [boolC_length, hL8]; exact Try.info8b)
      have H8 := Lib.hid hL8
      have hn3l := hN.out.lt
      clear hL hL8 hrg hN hO
      go_wp2_with (refine wpList_load_mid rfl 62 _ rfl n3 0 rfl (boolC L) _ HRG.out under8b rfl HI8.out ?_)
      have hbs0 := hb.out.size
      clear HRG HI8 hn3l
      go_loopw [47, 11] (fun u o wq => ∃ k : Nat, k ≤ 8 ∧ u = .int .i64 k ∧ Hid (wq.ownsRow w.heap.size 3 1 o ((List.range k).filter (touchTo l l.length)).length (ints ((List.range k).filter (touchTo l l.length)))) ∧ Hid (Below w.heap.size w wq)) (fun u _ _ => 8 - (intOf u).toNat)
      case atStart => exact ⟨0, by omega, rfl, World.ownsRow_nil _ _ _ _, hb⟩
      case round =>
        clear hb hbs0
        obtain ⟨k, hk, rfl, hO, hb⟩ := hrel
        obtain ⟨A9, c9, rfl⟩ := own_slice hO.out
        by_cases hlt8 : k < 8
        · have hki : (k : Int) < 8 := by omega
          have hfn := filter_next (touchTo l l.length) k
          have hg := HGET.out k hlt8
          have hix := fun W => run_ix8 L k _ W H8.out hg
          have hfl : ((List.range k).filter (touchTo l l.length)).length ≤ 8 := Nat.le_trans (List.length_filter_le _ _) (by simp; omega)
          obtain ⟨tb, htb⟩ : ∃ tb, touchTo l l.length k = tb := ⟨_, rfl⟩
          rw [htb] at hfn hix
          cases tb
          case false =>
            rw [if_neg (by decide), List.append_nil] at hfn
            have HO2 : Hid (wr.ownsRow w.heap.size 3 1 (.slice A9 ((List.range k).filter (touchTo l l.length)).length c9) ((List.range (k + 1)).filter (touchTo l l.length)).length (ints ((List.range (k + 1)).filter (touchTo l l.length)))) := by
              show World.ownsRow _ _ _ _ _ _ _
              rw [hfn]; exact hO.out
            clear hfn htb hg hfl hO
            go_wp2
            go_roundw
            case rel => exact ⟨k + 1, by omega, by go_num, HO2, hb⟩
            case measure => simp [intOf]; omega
          case true =>
            rw [if_pos rfl] at hfn
            have HFN := Lib.hid hfn
            have hbs := hb.out.size
            clear hfn htb hg
            generalize (List.range k).filter (touchTo l l.length) = F at *
            go_wp2_with (at_builtin; refine append_one _ (.int .i64 (k : Int)) rfl (.tmp 52) (.tmp 54) 40 rfl w.heap.size 3 _ _ Try.underlying40 Try.infoInt rfl rfl _ _ _ rfl hO.out rfl (by unfold maxLen; omega) (by omega) hbs ?_)
            intro v7 w7 ho7 hb7 hgr7
            have HO7 : Hid (w7.ownsRow w.heap.size 3 1 v7 ((List.range (k + 1)).filter (touchTo l l.length)).length (ints ((List.range (k + 1)).filter (touchTo l l.length)))) := by
              rw [HFN.out, ints_append, List.length_append]; exact ho7
            have HB7 := Lib.hid (hb.out.trans hb7)
            clear ho7 hb7 hgr7
            go_wp2
            go_roundw
            case rel => exact ⟨k + 1, by omega, by go_num, HO7, HB7⟩
            case measure => simp [intOf]; omega
        · obtain rfl : k = 8 := by omega
          go_wp2
          go_ret2
          exact ⟨_, by rw [HE.out]; rfl, hb.out, fun h => absurd HE.out h, fun _ q hq => by rw [HLL.out q hq]; exact hO.out⟩
end Go.Proofs.Yteecfffgigaomaa
