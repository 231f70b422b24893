import Derived.Test.YteecfffgigaomaaLaw5
namespace Go.Proofs.Yteecfffgigaomaa
open Go.RowKit
set_option linter.unusedVariables false
set_option linter.unusedSimpArgs false
/-- Which places are met by a way out of a place before i. -/
noncomputable def frR (l : List In) : Nat → List Bool
  | 0 => (List.replicate (l.length + 1) false).set 0 true
  | a + 1 => if rchB l a = true then markAll (frR l a) (nextL l a) else frR l a
theorem frR_le (l : List In) (a : Nat) : Le (frR l a) (frR l (a + 1)) := by
  show Le _ (if rchB l a = true then markAll (frR l a) (nextL l a) else frR l a)
  split
  · exact Le.all _ _
  · exact Le.refl _
theorem frR_mono (l : List In) (a : Nat) : ∀ k, Le (frR l a) (frR l (a + k))
  | 0 => Le.refl _
  | k + 1 => (frR_mono l a k).trans (frR_le l (a + k))
theorem frR_length (l : List In) (a : Nat) : (frR l a).length = l.length + 1 := by
  have := (frR_mono l 0 a).len
  rw [Nat.zero_add] at this
  rw [← this]; show ((List.replicate (l.length + 1) false).set 0 true).length = _; simp
theorem frR_all {l : List In} (hk : okL l) {a : Nat} (ha : a ≤ l.length) (h : rchB l a = true) : (frR l (l.length + 1))[a]? = some true := by
  have hr := rchB_true.1 h
  cases hr with
  | zero =>
    have := (frR_mono l 0 (l.length + 1)).le 0 (by show ((List.replicate (l.length + 1) false).set 0 true)[0]? = some true; simp)
    rwa [Nat.zero_add] at this
  | next hc hb =>
    rename_i q
    have hql := hc.le hk
    have h1 : (frR l (q + 1))[a]? = some true := by
      show (if rchB l q = true then markAll (frR l q) (nextL l q) else frR l q)[a]? = some true
      rw [if_pos (rchB_true.2 hc)]
      exact markAll_in _ _ hb (by rw [frR_length]; omega)
    have := (frR_mono l (q + 1) (l.length - q)).le a h1
    rwa [show q + 1 + (l.length - q) = l.length + 1 by omega] at this
theorem pair_at {L : List Nat} (h : L = [] ∨ (∃ b, L = [b]) ∨ ∃ b c, L = [b, c]) {k : Nat} (hk : k < 2) :
    ∃ v : Int, (#[Value.int .i64 (pairOf L).1, Value.int .i64 (pairOf L).2] : Array Value)[k]? = some (.int .i64 v) ∧ ((v < 0 ∧ L.length ≤ k) ∨ ∃ b : Nat, v = b ∧ L[k]? = some b) := by
  have hk2 : k = 0 ∨ k = 1 := by omega
  rcases h with rfl | ⟨b, rfl⟩ | ⟨b, c, rfl⟩ <;> rcases hk2 with rfl | rfl
  · exact ⟨-1, rfl, .inl ⟨by decide, by simp⟩⟩
  · exact ⟨-1, rfl, .inl ⟨by decide, by simp⟩⟩
  · exact ⟨b, rfl, .inr ⟨b, rfl, rfl⟩⟩
  · exact ⟨-1, rfl, .inl ⟨by decide, by simp⟩⟩
  · exact ⟨b, rfl, .inr ⟨b, rfl, rfl⟩⟩
  · exact ⟨c, rfl, .inr ⟨c, rfl, rfl⟩⟩
theorem pair_len {L : List Nat} (h : L = [] ∨ (∃ b, L = [b]) ∨ ∃ b c, L = [b, c]) : L.length ≤ 2 := by
  rcases h with rfl | ⟨b, rfl⟩ | ⟨b, c, rfl⟩ <;> simp
/-- What the k first of a place's ways out leave. -/
noncomputable def frG (l : List In) (i k : Nat) : List Bool := if rchB l i = true then markAll (frR l i) ((nextL l i).take k) else frR l i
theorem frG_zero (l : List In) (i : Nat) : frG l i 0 = frR l i := by
  unfold frG
  rw [List.take_zero]
  split <;> rfl
theorem frG_two (l : List In) (i : Nat) : frG l i 2 = frR l (i + 1) := by
  unfold frG
  rw [List.take_of_length_le (pair_len (next_shape l i))]; rfl
theorem frG_stay {l : List In} {i k : Nat} (h : (nextL l i).length ≤ k ∨ rchB l i = false) : frG l i (k + 1) = frG l i k := by
  unfold frG
  rcases h with h | h
  · rw [List.take_of_length_le (by omega), List.take_of_length_le h]
  · rw [h, if_neg (by decide), if_neg (by decide)]
theorem frG_next {l : List In} {i k b : Nat} (h : rchB l i = true) (hb : (nextL l i)[k]? = some b) : frG l i (k + 1) = (frG l i k).set b true := by
  unfold frG
  rw [if_pos h, if_pos h, List.take_add_one, hb]
  unfold markAll
  rw [Option.toList_some, List.foldl_append]; rfl
theorem frG_length (l : List In) (i k : Nat) : (frG l i k).length = l.length + 1 := by
  unfold frG
  split
  · rw [← (Le.all _ _).len, frR_length]
  · exact frR_length l i
set_option maxHeartbeats 16000000 in
set_option maxRecDepth 100000 in
theorem closed_walk (z : Pa) (t : Int) (W : World) (h : PaAt W z) (ht : (Lit.int .i64 t).wf = true) :
    Calls Try.prog 5 #[.agg (pgC z.A z.c z.B z.d z.p), .int .i64 t] W fun e w' => e = .returned (.bool true) ∧ Below W.heap.size W w' := by
  have hti := Go.bounds_i64 ht
  clear ht
  obtain ⟨A, c, B, d, p⟩ := z
  obtain ⟨hp, hok⟩ := h
  replace hp : PgAt W A c B d p := hp
  replace hok : pgOk p := hok
  obtain ⟨hc1, hc2⟩ := seq_form hp.1
  obtain ⟨hd1, hd2⟩ := hp.2.form
  have hb0 : Below W.heap.size W (W.alloc (.cells (pgC A c B d p) 25)) := (Below.refl _ _).alloc (Nat.le_refl _) _
  have l0 := Lies.made W 25 (pgC A c B d p)
  have HP := Lib.hid hp
  have HOK := Lib.hid hok
  have HB := Lib.hid hb0
  have HL := Lib.hid l0
  clear hp hok hb0 l0
  go_enter Try.func5, Try.ntmps5
  go_wp2_with fail
  generalize W.alloc (.cells (pgC A c B d p) 25) = w1 at *
  have c0 := (HL.out.cell 0).trans (show _ = some (Value.slice A p.rs.length c) from rfl)
  have c1 := (HL.out.cell 1).trans (show _ = some (Value.slice B p.ts.length d) from rfl)
  have cl := HL.out.lt
  refine (awake_any _).mono ?_
  rintro e w2 ⟨rfl, hbm⟩
  replace HB := Lib.hid (HB.out.trans ((hbm).mono HB.out.size))
  replace HL := Lib.hid (HL.out.below hbm HL.out.lt)
  clear c0 c1 cl
  have c0 := (HL.out.cell 0).trans (show _ = some (Value.slice A p.rs.length c) from rfl)
  have c1 := (HL.out.cell 1).trans (show _ = some (Value.slice B p.ts.length d) from rfl)
  have cl := HL.out.lt
  clear hbm
  go_wp2_with fail
  have HF := Lib.hid (fun w (hw : Below W.heap.size W w) => rfFew p 100 A c B d w (HP.out.later hw) (by omega))
  refine (HF.out _ HB.out).mono ?_
  rintro e wf ⟨rfl, hbm⟩
  clear HF
  replace HB := Lib.hid (HB.out.trans ((hbm).mono HB.out.size))
  replace HL := Lib.hid (HL.out.below hbm HL.out.lt)
  clear c0 c1 cl
  have c0 := (HL.out.cell 0).trans (show _ = some (Value.slice A p.rs.length c) from rfl)
  have c1 := (HL.out.cell 1).trans (show _ = some (Value.slice B p.ts.length d) from rfl)
  have cl := HL.out.lt
  clear hbm
  obtain ⟨fb, hfb⟩ : ∃ fb, fewB p 100 = fb := ⟨_, rfl⟩
  have HFB := Lib.hid hfb
  rw [hfb]
  clear hfb
  cases fb
  case false =>
    clear HFB
    go_wp2_with fail
    refine (awake_any _).mono ?_
    rintro e wz ⟨rfl, hbz⟩
    have hbz := HB.out.trans (hbz.mono HB.out.size)
    go_wp2
    go_ret
    exact ⟨rfl, hbz⟩
  obtain ⟨hf1, hf2, hf3, hf4⟩ := of_decide_eq_true HFB.out
  have HF3 := Lib.hid hf3
  clear hf3 HFB
  have HR := Lib.hid (fun w (hw : Below W.heap.size W w) => r11Right p A c B d w (HP.out.later hw) HOK.out)
  go_wp2_with fail
  refine (HR.out _ HB.out).mono ?_
  rintro e wr2 ⟨rfl, hbm⟩
  clear HR
  replace HB := Lib.hid (HB.out.trans ((hbm).mono HB.out.size))
  replace HL := Lib.hid (HL.out.below hbm HL.out.lt)
  clear c0 c1 cl
  have c0 := (HL.out.cell 0).trans (show _ = some (Value.slice A p.rs.length c) from rfl)
  have c1 := (HL.out.cell 1).trans (show _ = some (Value.slice B p.ts.length d) from rfl)
  have cl := HL.out.lt
  clear hbm
  obtain ⟨rb, hrb⟩ : ∃ rb, rightP p = rb := ⟨_, rfl⟩
  have HRB := Lib.hid hrb
  rw [hrb]
  clear hrb
  cases rb
  case false =>
    clear HRB
    go_wp2_with fail
    refine (awake_any _).mono ?_
    rintro e wz ⟨rfl, hbz⟩
    have hbz := HB.out.trans (hbz.mono HB.out.size)
    go_wp2
    go_ret
    exact ⟨rfl, hbz⟩
  by_cases ht0 : t < 0
  · have e1 : decide (t < 0) = true := by simpa using ht0
    clear ht0
    go_wp2_with fail
    refine (awake_any _).mono ?_
    rintro e wz ⟨rfl, hbz⟩
    have hbz := HB.out.trans (hbz.mono HB.out.size)
    go_wp2
    go_ret
    exact ⟨rfl, hbz⟩
  have e1 : decide (t < 0) = false := by simpa using ht0
  by_cases ht1 : (p.ts.length : Int) ≤ t
  · have e2 : decide ((p.ts.length : Int) ≤ t) = true := by simpa using ht1
    clear ht1
    go_wp2_with fail
    refine (awake_any _).mono ?_
    rintro e wz ⟨rfl, hbz⟩
    have hbz := HB.out.trans (hbz.mono HB.out.size)
    go_wp2
    go_ret
    exact ⟨rfl, hbz⟩
  have e2 : decide ((p.ts.length : Int) ≤ t) = false := by simpa using ht1
  obtain ⟨tn, rfl⟩ : ∃ tn : Nat, t = tn := ⟨t.toNat, by omega⟩
  have htn : tn < p.ts.length := by omega
  obtain ⟨l, hl⟩ : ∃ l, p.ts[tn]? = some l := ⟨_, List.getElem?_eq_getElem htn⟩
  obtain ⟨⟨_, hts8, hrs8⟩, _, hall⟩ := rightP_all HRB.out
  obtain ⟨h256, hokl, hins⟩ := hall l (List.mem_of_getElem? hl)
  obtain ⟨b, off, B2, d2, hBe, g0w, hil⟩ := HP.out.2.at_ hl
  subst hBe
  obtain ⟨hc3, hc4⟩ := seq_form hil
  have hbl := World.block_lt_of_cell? W _ g0w
  have HG := Lib.hid (fun w (hw : Below W.heap.size W w) => (hw.cell (p := ⟨b, off + tn, none⟩) hbl).trans g0w)
  have HIL := Lib.hid hil
  have HOKL := Lib.hid hokl
  have HINS := Lib.hid hins
  have HNE : Hid (namesE p (tn : Int) = 0) := by
    show namesE p (tn : Int) = 0
    unfold namesE
    rw [HRB.out, if_neg (by decide), if_neg (by omega)]
  have HL2 := Lib.hid (show p.ts[(tn : Int).toNat]? = some l by rw [Int.toNat_natCast]; exact hl)
  have HLM := Lib.hid hl
  clear hall hokl hil g0w hins hl
  have e3 : decide (p.ts.length ≤ tn) = false := by simp; omega
  have htnI : (tn : Int) < (p.ts.length : Int) := by omega
  have g0 := HG.out _ HB.out
  have HC := Lib.hid (fun w (hw : Below W.heap.size W w) => ckReach p A c (some ⟨b, off, none⟩) d (tn : Int) w (HP.out.later hw) HOK.out hti)
  clear ht0 ht1
  go_wp2_with fail
  refine (HC.out _ HB.out).mono ?_
  rintro e w5 ⟨va, rfl, hbm, _, hv⟩
  have ho := owns_mono (hv HNE.out l HL2.out) HB.out.size
  rw [HNE.out, show ((0 : Nat) : Int) = 0 from rfl]
  clear HC hv g0
  replace HB := Lib.hid (HB.out.trans ((hbm).mono HB.out.size))
  replace HL := Lib.hid (HL.out.below hbm HL.out.lt)
  clear c0 c1 cl
  have c0 := (HL.out.cell 0).trans (show _ = some (Value.slice A p.rs.length c) from rfl)
  have c1 := (HL.out.cell 1).trans (show _ = some (Value.slice (some ⟨b, off, none⟩) p.ts.length d) from rfl)
  have cl := HL.out.lt
  clear hbm
  obtain ⟨ga, capa, rfl, hga, hgal, hcapa, hcma, _⟩ := ownsRow_open ho (by omega)
  have HA := Lib.hid ho
  have q0 := owns_cell ho (boolC_get (rchL_get (l := l) (a := 0) (by omega)))
  rw [rchB_true.2 Rch.zero] at q0
  have hmk : ∀ W : World, (Instr.makeSlice 35 (.int .i64 ((l.length : Int) + 1)) (.int .i64 ((l.length : Int) + 1))).run Try.prog W = .ok (.slice (some ⟨W.heap.size, 0, none⟩) (l.length + 1) (l.length + 1)) (W.alloc (.cells (madeCells #[.bool false] (l.length + 1)) 4)) := fun W => by
    have := run_make_rowS (P := Try.prog) 35 4 (.bool false) 1 1 Try.underlying35 Try.infoBool .i64 .i64 (l.length + 1) (by omega) (by omega) W
    rw [Nat.mul_one] at this
    exact this
  clear ho c0 c1 cl
  go_upto_region 8 with (fail)
  clear hmk q0
  have HB5 := Lib.hid (HB.out.alloc HB.out.size (.cells (madeCells #[.bool false] (l.length + 1)) 4))
  have ho5 := owned_made w5 4 (.bool false) rfl (l.length + 1) (by unfold maxLen; omega)
  have HF5 : Hid ((w5.alloc (.cells (madeCells #[.bool false] (l.length + 1)) 4)).ownsRow W.heap.size 4 1 (.slice (some ⟨w5.heap.size, 0, none⟩) (l.length + 1) (l.length + 1)) (l.length + 1) (boolC (List.replicate (l.length + 1) false))) := by
    have := owns_mono ho5 HB.out.size
    show World.ownsRow _ _ _ _ _ _ _
    unfold boolC
    rw [List.map_replicate]; exact this
  have HA5 := Lib.hid (owned_below HA.out ((Below.refl w5.heap.size w5).alloc (Nat.le_refl _) (.cells (madeCells #[.bool false] (l.length + 1)) 4)))
  have hWgb := HB.out.size
  clear ho5 HA HB HL
  generalize w5.alloc (.cells (madeCells #[.bool false] (l.length + 1)) 4) = w6 at *
  generalize w5.heap.size = gb at *
  have f0 := owns_free HF5.out (k := 0) (by omega)
  have q0 := owns_cell HF5.out (boolC_get (show (List.replicate (l.length + 1) false)[0]? = some false by simp))
  have q0l := World.block_lt_of_cell? _ _ q0
  have h01 : (0 : Int) < (l.length : Int) + 1 := by omega
  have hset := owns_set (u := .bool true) HF5.out (k := 0) (by omega)
  rw [boolC_set] at hset
  have HF6 : Hid ((w6.setCell ⟨gb, 0, none⟩ (.bool true)).ownsRow W.heap.size 4 1 (.slice (some ⟨gb, 0, none⟩) (l.length + 1) (l.length + 1)) (l.length + 1) (boolC (frR l 0))) := hset
  have HA6 := Lib.hid (owns_kept HA5.out (Kept.put w6 gb 0 (.bool true)) (fun r cur hr hl (e : r = gb) => by simp [Value.ownBlock] at hr; omega))
  have HB6 := Lib.hid (HB5.out.trans ((Kept.put w6 gb 0 (.bool true)).below HB5.out.size (fun k hk (e : k = gb) => by omega)))
  clear hset HF5 HA5 HB5
  go_upto_region 9 with (fail)
  clear f0 q0 q0l
  generalize w6.setCell ⟨gb, 0, none⟩ (.bool true) = w7 at *
  go_wp2_with fail
  go_loopw [73] (fun u wr => ∃ i : Nat, i ≤ l.length + 1 ∧ u = .int .i64 i ∧ Hid (wr.ownsRow W.heap.size 4 1 (.slice (some ⟨ga, 0, none⟩) (l.length + 1) capa) (l.length + 1) (boolC (rchL l))) ∧ Hid (wr.ownsRow W.heap.size 4 1 (.slice (some ⟨gb, 0, none⟩) (l.length + 1) (l.length + 1)) (l.length + 1) (boolC (frR l i))) ∧ Hid (Below W.heap.size W wr)) (fun u _ => l.length + 1 - (intOf u).toNat)
  case atStart => exact ⟨0, by omega, rfl, HA6, HF6, HB6⟩
  case round =>
    clear HA6 HF6 HB6
    obtain ⟨i, hi, rfl, HA, HF, HB⟩ := hrel
    by_cases hlt : i ≤ l.length
    · have hii : (i : Int) < (l.length : Int) + 1 := by omega
      have HC := Lib.hid (r11Next l B2 d2 i wr (HIL.out.later HB.out) HOKL.out h256 hlt)
      have HNX := Lib.hid (next_shape l i)
      have HLE := Lib.hid (fun b (hb : b ∈ nextL l i) => nextL_le HOKL.out hb)
      rw [← frG_zero l i] at HF
      go_wp2_with fail
      refine HC.out.mono ?_
      rintro e w' ⟨rfl, rfl⟩
      clear HC
      have hbx : Below wr.heap.size wr (wr.alloc (.cells #[.int .i64 (pairOf (nextL l i)).1, .int .i64 (pairOf (nextL l i)).2] 3)) := (Below.refl _ _).alloc (Nat.le_refl _) _
      have hlp := Lies.made wr 3 #[.int .i64 (pairOf (nextL l i)).1, .int .i64 (pairOf (nextL l i)).2]
      have HA2 := Lib.hid (owned_below HA.out hbx)
      have HF2 := Lib.hid (owned_below HF.out hbx)
      have HB2 := Lib.hid (HB.out.trans (hbx.mono HB.out.size))
      have hgl := (own_lt HF.out (r := gb) rfl).2
      have HLP := Lib.hid hlp
      clear HA HF HB hbx hlp
      go_wp2_with fail
      generalize wr.alloc (.cells #[.int .i64 (pairOf (nextL l i)).1, .int .i64 (pairOf (nextL l i)).2] 3) = wp at *
      generalize wr.heap.size = gp at *
      go_loopw [86] (fun u wq => ∃ k : Nat, k ≤ 2 ∧ u = .int .i64 k ∧ Hid (wq.ownsRow W.heap.size 4 1 (.slice (some ⟨ga, 0, none⟩) (l.length + 1) capa) (l.length + 1) (boolC (rchL l))) ∧ Hid (wq.ownsRow W.heap.size 4 1 (.slice (some ⟨gb, 0, none⟩) (l.length + 1) (l.length + 1)) (l.length + 1) (boolC (frG l i k))) ∧ Hid (Below W.heap.size W wq) ∧ Hid (Lies wq gp 3 #[.int .i64 (pairOf (nextL l i)).1, .int .i64 (pairOf (nextL l i)).2])) (fun u _ => 2 - (intOf u).toNat)
      case atStart => exact ⟨0, by omega, rfl, HA2, HF2, HB2, HLP⟩
      case round =>
        clear HA2 HF2 HB2 HLP
        obtain ⟨k, hk, rfl, HA, HF, HB, HLP⟩ := hrel
        by_cases hk2 : k < 2
        · have hki : (k : Int) < 2 := by omega
          obtain ⟨v, hv, hvv⟩ := pair_at HNX.out hk2
          have q9 := (HLP.out.cell k).trans hv
          have q9l := HLP.out.lt
          have q7 := owns_cell HA.out (boolC_get (rchL_get (l := l) (a := i) hlt))
          have q7l := World.block_lt_of_cell? _ _ q7
          obtain ⟨rb, hrb⟩ : ∃ rb, rchB l i = rb := ⟨_, rfl⟩
          rw [hrb] at q7
          have HRB9 := Lib.hid hrb
          clear hv hrb
          rcases hvv with ⟨hv0, hlen⟩ | ⟨b9, rfl, hb9⟩
          · have HST := Lib.hid (frG_stay (l := l) (i := i) (.inl hlen))
            have e9 : decide (v < 0) = true := decide_eq_true hv0
            clear hlen
            go_wp2
            go_roundw
            case rel => exact ⟨k + 1, by omega, by go_num, HA, by rw [HST.out]; exact HF, HB, HLP⟩
            case measure => simp [intOf]; omega
          · have e9 : decide ((b9 : Int) < 0) = false := by simp
            have HB9 := Lib.hid hb9
            clear hb9
            cases rb
            case false =>
              have HST := Lib.hid (frG_stay (l := l) (i := i) (k := k) (.inr HRB9.out))
              go_wp2
              go_roundw
              case rel => exact ⟨k + 1, by omega, by go_num, HA, by rw [HST.out]; exact HF, HB, HLP⟩
              case measure => simp [intOf]; omega
            case true =>
              have hmem := List.mem_of_getElem? HB9.out
              have hbl := HLE.out b9 hmem
              have hbi : (b9 : Int) < (l.length : Int) + 1 := by omega
              have hrb9 : rchB l b9 = true := rchB_true.2 ((rchB_true.1 HRB9.out).next hmem)
              have q6 := owns_cell HA.out (boolC_get (rchL_get (l := l) (a := b9) hbl))
              rw [hrb9] at q6
              obtain ⟨ov, hov⟩ : ∃ ov, (frG l i k)[b9]? = some ov := ⟨_, List.getElem?_eq_getElem (by rw [frG_length]; omega)⟩
              have q8 := owns_cell HF.out (boolC_get hov)
              have q8l := World.block_lt_of_cell? _ _ q8
              have f8 := owns_free HF.out (k := b9) (by omega)
              have hset := owns_set (u := .bool true) HF.out (k := b9) (by omega)
              rw [boolC_set, ← frG_next HRB9.out HB9.out] at hset
              have HF3 := Lib.hid hset
              have HA3 := Lib.hid (owns_kept HA.out (Kept.put wr gb b9 (.bool true)) (fun r cur hr hl (e : r = gb) => by simp [Value.ownBlock] at hr; omega))
              have HB3 := Lib.hid (HB.out.trans ((Kept.put wr gb b9 (.bool true)).below HB.out.size (fun k hk (e : k = gb) => by omega)))
              have HL3 := Lib.hid (HLP.out.kept (Kept.put wr gb b9 (.bool true)) (fun (e : gp = gb) => by omega))
              clear hset hov hrb9 hmem HA HF HB HLP
              go_wp2
              go_roundw
              case rel => exact ⟨k + 1, by omega, by go_num, HA3, HF3, HB3, HL3⟩
              case measure => simp [intOf]; omega
        · obtain rfl : k = 2 := by omega
          rw [frG_two] at HF
          go_wp2
          go_roundw
          case rel => exact ⟨i + 1, by omega, by go_num, HA, HF, HB⟩
          case measure => simp [intOf]; omega
    · obtain rfl : i = l.length + 1 := by omega
      rw [show ((l.length + 1 : Nat) : Int) = (l.length : Int) + 1 by simp]
      have e12 : decide ((l.length : Int) + 1 < (l.length : Int) + 1) = false := by simp
      have e13 : decide (l.length + 1 < l.length + 1) = false := by simp
      go_wp2_with fail
      go_loopw [111] (fun u wq => ∃ a : Nat, a ≤ l.length + 1 ∧ u = .int .i64 a ∧ wq = wr) (fun u _ => l.length + 1 - (intOf u).toNat)
      case atStart => exact ⟨0, by omega, rfl, rfl⟩
      case round =>
        obtain ⟨a, ha, rfl, rfl⟩ := hrel
        by_cases hal : a ≤ l.length
        · have hai : (a : Int) < (l.length : Int) + 1 := by omega
          have q7 := owns_cell HA.out (boolC_get (rchL_get (l := l) (a := a) hal))
          have q7l := World.block_lt_of_cell? _ _ q7
          obtain ⟨rb, hrb⟩ : ∃ rb, rchB l a = rb := ⟨_, rfl⟩
          rw [hrb] at q7
          cases rb
          case false =>
            clear hrb
            go_wp2
            go_roundw
            case rel => exact ⟨a + 1, by omega, by go_num, trivial⟩
            case measure => simp [intOf]; omega
          case true =>
            have q8 := owns_cell HF.out (boolC_get (frR_all HOKL.out hal hrb))
            have q8l := World.block_lt_of_cell? _ _ q8
            clear hrb
            go_wp2
            go_roundw
            case rel => exact ⟨a + 1, by omega, by go_num, trivial⟩
            case measure => simp [intOf]; omega
        · obtain rfl : a = l.length + 1 := by omega
          go_wp2
          go_ret
          exact ⟨rfl, HB.out⟩
end Go.Proofs.Yteecfffgigaomaa
