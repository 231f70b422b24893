/-
  The document's Touches (layer 11).
-/
import Derived.Test.YteecfffgigaomaaRf11d
import Derived.Test.YteecfffgigaomaaTouch2
namespace Go.Proofs.Yteecfffgigaomaa
open Go.RowKit
set_option linter.unusedVariables false
set_option linter.unusedSimpArgs false
theorem touchAt_get {l : List In} {r a : Nat} {x : In} (h : l[a]? = some x) : touchAt l r a = (rchB l a && (onRingB x.op && (x.c == (r : Int)))) := by
  unfold touchAt; rw [List.getD_eq_getElem?_getD, h]; rfl
theorem onRing_is (op : Int) : onRingB op = (decide (18 ≤ op) && decide (op ≤ 20)) := by
  unfold onRingB
  rw [Bool.eq_iff_iff]
  simp only [Bool.or_eq_true, Bool.and_eq_true, beq_iff_eq, decide_eq_true_eq]
  omega
set_option maxHeartbeats 8000000 in
set_option maxRecDepth 100000 in
theorem r11Touches (l : List In) (A : Option Addr) (c : Nat) (w : World) (h : InsAt w A c l) (hk : okL l) (h256 : l.length ≤ 256) :
    Calls Try.prog 20 #[.slice A l.length c] w fun e w' => ∃ v, e = .returned v ∧ w'.ownsRow w.heap.size 3 1 v (touchL l).length (ints (touchL l)) ∧ Below w.heap.size w w' := by
  obtain ⟨hc1, hc2⟩ := seq_form h
  have HC := Lib.hid (r11Reach l A c w h hk h256)
  have HH := Lib.hid h
  clear h hk
  go_enter Try.func20, Try.ntmps20
  go_wp2_with fail
  refine HC.out.mono ?_
  rintro e w1 ⟨g, rfl, ho1, hb1⟩
  have HO := Lib.hid ho1
  have HB := Lib.hid hb1
  clear ho1 hb1 HC
  go_wp2_with fail
  go_loopw [5, 4] (fun u o wr => ∃ r : Nat, r ≤ 8 ∧ u = .int .i64 r ∧ Hid (wr.ownsRow w.heap.size 3 1 o ((List.range r).filter (touchTo l l.length)).length (ints ((List.range r).filter (touchTo l l.length)))) ∧ Hid (wr.ownsRow w.heap.size 4 1 (.slice (some ⟨g, 0, none⟩) (l.length + 1) (l.length + 1)) (l.length + 1) (boolC (rchL l))) ∧ Hid (Below w.heap.size w wr)) (fun u _ _ => 8 - (intOf u).toNat)
  case atStart => exact ⟨0, by omega, rfl, World.ownsRow_nil _ _ _ _, HO, HB⟩
  case round =>
    clear HO HB
    obtain ⟨r, hr, rfl, hO, hR, hb⟩ := hrel
    obtain ⟨A9, c9, rfl⟩ := own_slice hO.out
    by_cases hlt8 : r < 8
    · have hri : (r : Int) < 8 := by omega
      have HT0 : Hid (touchTo l 0 r = false) := rfl
      go_wp2_with fail
      go_loopw [7, 6] (fun u f wq => ∃ a : Nat, a ≤ l.length ∧ u = .int .i64 a ∧ f = .bool (touchTo l a r) ∧ wq = wr) (fun u _ _ => l.length - (intOf u).toNat)
      case atStart => exact ⟨0, by omega, rfl, rfl, rfl⟩
      case round =>
        obtain ⟨a, ha, rfl, rfl, rfl⟩ := hrel
        by_cases hlt : a < l.length
        · have hai : (a : Int) < (l.length : Int) := by omega
          have had : decide (a < l.length) = true := by simpa using hlt
          have hai2 : (a : Int) < (l.length : Int) + 1 := by omega
          obtain ⟨x, hx⟩ : ∃ x, l[a]? = some x := ⟨_, List.getElem?_eq_getElem hlt⟩
          obtain ⟨b, off, rfl, _, hg⟩ := InsAt.at_ (HH.out.later hb.out) hx
          have y0 := hg 0 _ (by decide) rfl
          have y3 := hg 3 _ (by decide) rfl
          rw [Nat.add_zero] at y0
          have q8 := owns_cell hR.out (boolC_get (rchL_get (l := l) (a := a) (by omega)))
          have q8l := World.block_lt_of_cell? _ _ q8
          have hst := touchTo_succ l a r
          rw [touchAt_get hx, onRing_is] at hst
          obtain ⟨fb, hfb⟩ : ∃ fb, touchTo l a r = fb := ⟨_, rfl⟩
          obtain ⟨rb, hrb⟩ : ∃ rb, rchB l a = rb := ⟨_, rfl⟩
          obtain ⟨b18, h18⟩ : ∃ q, decide ((18 : Int) ≤ x.op) = q := ⟨_, rfl⟩
          obtain ⟨b20, h20⟩ : ∃ q, decide (x.op ≤ 20) = q := ⟨_, rfl⟩
          obtain ⟨bc, hbc⟩ : ∃ q, (x.c == (r : Int)) = q := ⟨_, rfl⟩
          rw [hfb, hrb, h18, h20, hbc] at hst
          rw [hfb]
          rw [hrb] at q8
          have HST := Lib.hid hst
          clear hst hfb hrb hg hx
          cases fb
          case true =>
            go_wp2
            go_roundw
            case rel => exact ⟨a + 1, by omega, by go_num, by rw [HST.out]; simp, trivial⟩
            case measure => simp [intOf]; omega
          cases rb
          case false =>
            go_wp2
            go_roundw
            case rel => exact ⟨a + 1, by omega, by go_num, by rw [HST.out]; simp, trivial⟩
            case measure => simp [intOf]; omega
          cases b18
          case false =>
            go_wp2
            go_roundw
            case rel => exact ⟨a + 1, by omega, by go_num, by rw [HST.out]; simp, trivial⟩
            case measure => simp [intOf]; omega
          cases b20
          case false =>
            go_wp2
            go_roundw
            case rel => exact ⟨a + 1, by omega, by go_num, by rw [HST.out]; simp, trivial⟩
            case measure => simp [intOf]; omega
          go_wp2
          go_roundw
          case rel => exact ⟨a + 1, by omega, by go_num, by rw [HST.out]; simp, trivial⟩
          case measure => simp [intOf]; omega
        · obtain rfl : a = l.length := by omega
          have had : decide (l.length < l.length) = false := by simp
          have hfn := filter_next (touchTo l l.length) r
          have hfl : ((List.range r).filter (touchTo l l.length)).length ≤ 8 := Nat.le_trans (List.length_filter_le _ _) (by simp; omega)
          obtain ⟨tb, htb⟩ : ∃ tb, touchTo l l.length r = tb := ⟨_, rfl⟩
          rw [htb] at hfn ⊢
          cases tb
          case false =>
            rw [if_neg (by decide), List.append_nil] at hfn
            have HO2 : Hid (wr.ownsRow w.heap.size 3 1 (.slice A9 ((List.range r).filter (touchTo l l.length)).length c9) ((List.range (r + 1)).filter (touchTo l l.length)).length (ints ((List.range (r + 1)).filter (touchTo l l.length)))) := by
              show World.ownsRow _ _ _ _ _ _ _
              rw [hfn]; exact hO.out
            clear hfn htb hfl hO
            go_wp2
            go_roundw
            case rel => exact ⟨r + 1, by omega, by go_num, HO2, hR, hb⟩
            case measure => simp [intOf]; omega
          case true =>
            rw [if_pos rfl] at hfn
            have HFN := Lib.hid hfn
            have hbs := hb.out.size
            clear hfn htb
            generalize (List.range r).filter (touchTo l l.length) = F at *
            go_wp2_with (at_builtin; refine append_one _ (.int .i64 (r : Int)) rfl (.tmp 53) (.tmp 55) 40 rfl w.heap.size 3 _ _ Try.underlying40 Try.infoInt rfl rfl _ _ _ rfl hO.out rfl (by unfold maxLen; omega) (by omega) hbs ?_)
            intro v7 w7 ho7 hb7 hgr7
            have HO7 : Hid (w7.ownsRow w.heap.size 3 1 v7 ((List.range (r + 1)).filter (touchTo l l.length)).length (ints ((List.range (r + 1)).filter (touchTo l l.length)))) := by
              rw [HFN.out, ints_append, List.length_append]; exact ho7
            have HB7 := Lib.hid (hb.out.trans hb7)
            have HR7 := Lib.hid (owns_kept hR.out (kept_grown hgr7) (fun r cur hr hl3 hs => own_ne hO.out hl3 (by decide) hs))
            clear ho7 hb7 hgr7
            go_wp2
            go_roundw
            case rel => exact ⟨r + 1, by omega, by go_num, HO7, HR7, HB7⟩
            case measure => simp [intOf]; omega
    · obtain rfl : r = 8 := by omega
      go_wp2
      go_ret
      exact ⟨_, rfl, hO.out, hb.out⟩
end Go.Proofs.Yteecfffgigaomaa
