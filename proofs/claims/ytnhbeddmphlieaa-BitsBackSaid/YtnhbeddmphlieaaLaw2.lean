import Derived.Test.YtnhbeddmphlieaaBwmore
import Derived.Test.YtnhbeddmphlieaaArgrows
namespace Go.Proofs.Ytnhbeddmphlieaa
open Go.RowKit
set_option linter.unusedVariables false
set_option linter.unusedSimpArgs false
/-- Pieces: a number and how many of its bits. -/
def cellsP (l : List (Nat × Int)) : List Value := l.flatMap fun p => [Value.int .u64 (p.1 : Int), Value.int .i64 p.2]
theorem cellsP_get : ∀ {l : List (Nat × Int)} {i : Nat} {p : Nat × Int}, l[i]? = some p → (cellsP l)[i * 2 + 0]? = some (Value.int .u64 (p.1 : Int)) ∧ (cellsP l)[i * 2 + 1]? = some (Value.int .i64 p.2)
  | q :: l, 0, p, h => by simp at h; subst h; exact ⟨rfl, rfl⟩
  | q :: l, i + 1, p, h => by
    have := cellsP_get (l := l) (i := i) (p := p) (by simpa using h)
    rw [show (i + 1) * 2 + 0 = (i * 2 + 0) + 1 + 1 by omega, show (i + 1) * 2 + 1 = (i * 2 + 1) + 1 + 1 by omega]
    exact this
theorem flat_pieces (f : Nat → Nat × Int) (n : Nat) : (List.range n).flatMap (fun i => [Value.int .u64 ((f i).1 : Int), Value.int .i64 (f i).2]) = cellsP ((List.range n).map f) := by
  unfold cellsP; rw [List.flatMap_map]
def ArgPieces (w : World) (a : Option Addr) (len cap : Nat) (ps : List (Nat × Int)) : Prop :=
  (a = none → len = 0 ∧ cap = 0) ∧ ps.length = len ∧ SeqS w 2 (.slice a len cap) len (cellsP ps) ∧ ∀ p ∈ ps, p.1 < 18446744073709551616 ∧ -9223372036854775808 ≤ p.2 ∧ p.2 ≤ 9223372036854775807
theorem opened22 {W : World} {H : Type} {enc : TypeId × Value → H} {base : Nat} {a : Option Addr} {len cap : Nat} {d : DataW H} {p : List MemPlace}
    (_ : Value.okWide Try.prog W .any base 22 (.slice a len cap)) (h : DataW.Trod enc Try.prog W 0 (fun _ => true) true 22 (.slice a len cap) d p) : ∃ z, ArgPieces W a len cap z := by
  obtain ⟨h1, rows, h2, h3⟩ := argRows (sz := 2) Try.underlying22 (by kernel_rfl) (by omega) h
  obtain ⟨z, hz⟩ := Deep.choose_lt (α := Nat × Int) (n := len) (p := fun i q => rows i = [Value.int .u64 (q.1 : Int), Value.int .i64 q.2] ∧ q.1 < 18446744073709551616 ∧ -9223372036854775808 ≤ q.2 ∧ q.2 ≤ 9223372036854775807) (fun i hi => by
    obtain ⟨g1, n, y, g2⟩ := h2 i hi
    obtain ⟨x0, x1, e, r0, r1⟩ := twoInts (k0 := .u64) (k1 := .i64) Try.underlying30 Try.underlying28 Try.underlying3 rfl rfl (by kernel_rfl) (by kernel_rfl) g1 g2
    have b0 := Go.bounds_u64 r0
    have b1 := Go.bounds_i64 r1
    refine ⟨(x0.toNat, x1), ?_, by simp only; omega, by simp only; omega, by simp only; omega⟩
    rw [e]; simp only
    rw [show ((x0.toNat : Nat) : Int) = x0 by omega])
  have he : (List.range len).flatMap rows = cellsP ((List.range len).map z) := by
    rw [← flat_pieces]
    exact flatMap_congr_range len (fun i hi => (hz i hi).1)
  rw [he] at h3
  refine ⟨(List.range len).map z, h1, by simp, h3, fun q hq => ?_⟩
  obtain ⟨i, hi, rfl⟩ := List.mem_map.1 hq
  exact (hz i (List.mem_range.1 hi)).2
theorem seqP_at {w : World} {A : Option Addr} {n c : Nat} {ps : List (Nat × Int)} (h : SeqS w 2 (.slice A n c) n (cellsP ps)) {k : Nat} {p : Nat × Int} (hp : ps[k]? = some p) (hk : k < n) :
    ∃ b off, A = some ⟨b, off, none⟩ ∧ w.cell? ⟨b, off + k * 2, none⟩ = some (.int .u64 (p.1 : Int)) ∧ w.cell? ⟨b, off + k * 2 + 1, none⟩ = some (.int .i64 p.2) := by
  obtain ⟨b, off, c', hA, _, _, hc⟩ := h.elem (i := k) hk (by omega)
  simp only [Value.slice.injEq] at hA
  obtain ⟨rfl, _, _⟩ := hA
  obtain ⟨g1, g2⟩ := cellsP_get hp
  exact ⟨b, off, rfl, hc 0 _ (by omega) g1, hc 1 _ (by omega) g2⟩
/-- All bits that are put. -/
def putBits (ps : List (Nat × Int)) : List Bool := ps.flatMap fun p => if countsB p.2 = true then bitsN p.1 p.2.toNat else []
theorem putBits_next {ps : List (Nat × Int)} {k : Nat} {p : Nat × Int} (h : ps[k]? = some p) : putBits (ps.take (k + 1)) = putBits (ps.take k) ++ (if countsB p.2 = true then bitsN p.1 p.2.toNat else []) := by
  rw [List.take_add_one, h]; simp [putBits]
theorem putBits_length (ps : List (Nat × Int)) : (putBits ps).length ≤ 64 * ps.length := by
  induction ps with
  | nil => simp [putBits]
  | cons p ps ih =>
    simp only [putBits, List.flatMap_cons, List.length_append, List.length_cons] at *
    split
    · rename_i h
      have := of_decide_eq_true h
      rw [bitsN_length]; omega
    · simp only [List.length_nil]; omega
set_option maxHeartbeats 2000000 in
set_option maxRecDepth 100000 in
theorem writes_walk (a : Option Addr) (len cap : Nat) (ps : List (Nat × Int)) (w : World) (h : ArgPieces w a len cap ps) :
    Calls Try.prog 3 #[.slice a len cap] w fun e w' => e = .returned (.bool true) ∧ Below w.heap.size w w' := by
  obtain ⟨hn, hll, hseq, hM⟩ := h
  subst hll
  obtain ⟨A', cp', hv, hlc, hcm, _⟩ := hseq.form
  simp only [Value.slice.injEq, true_and] at hv
  obtain ⟨rfl, rfl⟩ := hv
  unfold maxLen at hcm
  have H := Lib.hid hseq
  have HM := Lib.hid hM
  clear hseq hM hn
  by_cases hs : 100 < ps.length
  · have e0 : decide ((100 : Int) < (ps.length : Int)) = true := by simp; omega
    have hbel := Below.refl w.heap.size w
    go_enter Try.func3, Try.ntmps3
    go_wp2_with (go_at_call 8; refine (awake_any _).mono ?_; rintro e w1 ⟨rfl, hb⟩; have hbel := then_ hbel hb; clear hb)
    go_ret
    exact ⟨rfl, hbel⟩
  have e0 : decide ((100 : Int) < (ps.length : Int)) = false := by simp; omega
  have hlen : ps.length ≤ 100 := by omega
  clear hs
  have hbel := Below.refl w.heap.size w
  go_enter Try.func3, Try.ntmps3
  go_wp2_with fail
  refine (awake_any _).mono ?_
  rintro e wA ⟨rfl, hb⟩
  have hbel := then_ hbel hb
  clear hb
  have hwF := BwAt.fresh wA (wA.heap.size + 1)
  have hbF : Below w.heap.size w (wA.alloc (.cells #[.slice none 0 0, .int .i64 0] 26)) := hbel.alloc hbel.size _
  have hsz : (wA.alloc (.cells #[.slice none 0 0, .int .i64 0] 26)).heap.size = wA.heap.size + 1 := by simp
  have hgA : w.heap.size ≤ wA.heap.size := hbel.size
  have HWF := Lib.hid hwF
  have HSZ := Lib.hid hsz
  clear hwF hsz hbel
  go_wp2
  generalize wA.alloc (.cells #[.slice none 0 0, .int .i64 0] 26) = wB at *
  generalize wA.heap.size = g at *
  have hwB : g + 1 ≤ wB.heap.size := by have := HWF.out.lt; omega
  go_loopw [4, 18] (fun t u wr => ∃ k : Nat, k ≤ ps.length ∧ u = .int .i64 k ∧ wr.ownsRow w.heap.size 4 1 t (putBits (ps.take k)).length (cellsL (putBits (ps.take k))) ∧ BwAt wr (g + 1) g (putBits (ps.take k)) ∧ g + 1 ≤ wr.heap.size ∧ Below w.heap.size w wr)
    (fun _ u _ => ps.length - (intOf u).toNat)
  case atStart => exact ⟨0, by omega, rfl, World.ownsRow_nil _ _ _ _, HWF.out, hwB, hbF⟩
  case round =>
    clear HWF hbF hwB
    obtain ⟨k, hk, rfl, ho, hw, hgr, hb⟩ := hrel
    by_cases hlt : k < ps.length
    · have hki : (k : Int) < (ps.length : Int) := by omega
      obtain ⟨⟨n, c⟩, hg⟩ : ∃ p, ps[k]? = some p := ⟨_, List.getElem?_eq_getElem hlt⟩
      obtain ⟨hn, hcl, hch⟩ := HM.out _ (List.mem_of_getElem? hg)
      obtain ⟨b, off, rfl, c1, c2⟩ := seqP_at (H.out.later hb) hg hlt
      have hnx := putBits_next hg
      have hpl := putBits_length (ps.take k)
      rw [List.length_take, Nat.min_eq_left hk] at hpl
      simp only at c1 c2 hnx hn hcl hch
      generalize putBits (ps.take k) = l at *
      have hn2 : n ≤ 18446744073709551615 := by omega
      have hli := Lies.made wr 30 #[.int .u64 (n : Int), .int .i64 c]
      have hba := hb.alloc hb.size (.cells #[.int .u64 (n : Int), .int .i64 c] 30)
      have hbA : Below wr.heap.size wr (wr.alloc (.cells #[.int .u64 (n : Int), .int .i64 c] 30)) := (Below.refl _ _).alloc (Nat.le_refl _) _
      have hoa := owns_below ho hbA
      have hwa := hw.later hbA
      have hgra : g + 1 ≤ (wr.alloc (.cells #[.int .u64 (n : Int), .int .i64 c] 30)).heap.size := Nat.le_trans hgr hbA.size
      have HNX := Lib.hid hnx
      have HO := Lib.hid hoa
      have HW := Lib.hid hwa
      have HL := Lib.hid hli
      have hgx : g ≠ wr.heap.size := by have := hw.lt; omega
      clear hnx ho hw hli hbA hoa hwa hg hb hgr
      by_cases hc : c < 0 ∨ 64 < c
      · have hcb := countsB_no hc
        have e1 : decide (c < 0) = true ∨ decide (c < 0) = false ∧ decide ((64 : Int) < c) = true := by
          rcases hc with h | h
          · exact .inl (decide_eq_true h)
          · by_cases h0 : c < 0
            · exact .inl (decide_eq_true h0)
            · exact .inr ⟨decide_eq_false h0, decide_eq_true h⟩
        have hnx := HNX.out
        rw [hcb, if_neg (by decide), List.append_nil] at hnx
        have HNX2 := Lib.hid hnx
        have HP := Lib.hid (fun w => bitsPutNo g n c w hc)
        clear hcb hnx HNX hc
        rcases e1 with e1 | ⟨e1, e2⟩
        · go_wp2_with fail
          refine (HP.out _).mono ?_
          rintro e w' ⟨rfl, rfl⟩
          have d1 := HL.out.cell 1
          simp at d1
          go_wp2
          go_roundw
          case rel => exact ⟨k + 1, by omega, by go_num, by rw [HNX2.out]; exact HO.out, by rw [HNX2.out]; exact HW.out, hgra, hba⟩
          case measure => simp [intOf]; omega
        · go_wp2_with fail
          refine (HP.out _).mono ?_
          rintro e w' ⟨rfl, rfl⟩
          have d1 := HL.out.cell 1
          simp at d1
          go_wp2
          go_roundw
          case rel => exact ⟨k + 1, by omega, by go_num, by rw [HNX2.out]; exact HO.out, by rw [HNX2.out]; exact HW.out, hgra, hba⟩
          case measure => simp [intOf]; omega
      · obtain ⟨m, rfl⟩ : ∃ m : Nat, c = m := ⟨c.toNat, by omega⟩
        have hm : m ≤ 64 := by omega
        have e1 : decide ((m : Int) < 0) = false := by simp
        have e2 : decide ((64 : Int) < (m : Int)) = false := by simp; omega
        have hnx := HNX.out
        rw [countsB_yes (by omega) (by omega), if_pos rfl, Int.toNat_natCast] at hnx
        have HNX2 := Lib.hid hnx
        have hP := bitsPut (g + 1) g n m l _ HW.out hgra (by omega) hn hm
        have HP := Lib.hid hP
        clear hnx HNX hc hP
        go_wp2_with fail
        refine HP.out.mono ?_
        rintro e w2 ⟨rfl, hw2, hk2⟩
        have ho2 := owns_bw HO.out HW.out hk2 (by decide) (by decide)
        have hl2 := HL.out.kept hk2 (bw_not HW.out HL.out (by decide) (by decide))
        have hb2 : Below w.heap.size w w2 := below_bw hba hk2 (by omega) (by omega) hba.size
        have hg2 : g + 1 ≤ w2.heap.size := by have := hk2.size; omega
        have d0 := (hl2.cell 0).trans (show _ = some (Value.int .u64 (n : Int)) from rfl)
        have d1 := (hl2.cell 1).trans (show _ = some (Value.int .i64 (m : Int)) from rfl)
        have HO2 := Lib.hid ho2
        have HW2 := Lib.hid hw2
        clear ho2 hw2 hl2 hk2 HO HW HL hba HP
        go_wp2_with fail
        refine (refBits n m w2 hn hm).mono ?_
        rintro e w3 ⟨vb, rfl, hob, hb3⟩
        have ho3 := owns_below HO2.out hb3
        have hw3 := HW2.out.later hb3
        have hbw := hb2.trans (hb3.mono hb2.size)
        have hbws := hbw.size
        have hg3 : g + 1 ≤ w3.heap.size := Nat.le_trans hg2 hb3.size
        obtain ⟨A3, cp3, hv3, h31, h32, h30⟩ := (SeqS.of_owns hob).form
        rw [hv3] at hob
        rw [hv3]
        have hsrc := SeqS.of_owns hob
        obtain ⟨A4, cp4, hv4, _⟩ := (SeqS.of_owns ho3).form
        rw [hv4] at ho3
        rw [hv4]
        have HO3 := Lib.hid ho3
        have HW3 := Lib.hid hw3
        have HSRC := Lib.hid hsrc
        clear hob hsrc ho3 hw3 HO2 HW2 hb3 hb2 hv3 hv4 d0 d1
        go_wp2_with (at_builtin; refine append_argS _ 1 rfl (.tmp 37) (.tmp 42) 27 rfl w.heap.size 4 _ 1 Try.underlying27 Try.infoBool rfl (by omega) _ _ _ rfl HO3.out _ m cp3 rfl (cellsL (bitsN n m)) HSRC.out (cellsL_one _) (by unfold maxLen; omega) (by omega) hbws ?_)
        intro v' w4 ho4 hb4 hgr4
        have hw4 := HW3.out.grown HO3.out hgr4 (by decide) (by decide)
        have hg4 : g + 1 ≤ w4.heap.size := Nat.le_trans hg3 hb4.size
        have ho4' : w4.ownsRow w.heap.size 4 1 v' (putBits (ps.take (k + 1))).length (cellsL (putBits (ps.take (k + 1)))) := by
          rw [HNX2.out, cellsL_append, List.length_append, bitsN_length]; exact ho4
        rw [← HNX2.out] at hw4
        obtain ⟨A5, cp5, hv5, _⟩ := (SeqS.of_owns ho4').form
        rw [hv5] at ho4'
        rw [hv5]
        have hb4 := hbw.trans hb4
        have HO4 := Lib.hid ho4'
        have HW4 := Lib.hid hw4
        have HLN := Lib.hid (bitsLen (g + 1) g _ w4 hw4)
        clear ho4 ho4' hw4 hgr4 HO3 HW3 HSRC hbw hbws hv5 HNX2 hg3 hg2
        generalize hl2 : putBits (ps.take (k + 1)) = l2 at *
        have HL2 := Lib.hid hl2
        clear hl2
        go_wp2_with fail
        refine HLN.out.mono ?_
        rintro e w' ⟨rfl, rfl⟩
        go_wp2
        go_roundw
        case rel => exact ⟨k + 1, by omega, by go_num, by rw [HL2.out]; exact HO4.out, by rw [HL2.out]; exact HW4.out, hg4, hb4⟩
        case measure => simp [intOf]; omega
    · obtain rfl : k = ps.length := by omega
      rw [List.take_of_length_le (Nat.le_refl _)] at ho hw
      have hpl := putBits_length ps
      generalize putBits ps = l at *
      have HLN := Lib.hid (bitsLen (g + 1) g _ _ hw)
      have HST := Lib.hid (bitsString (g + 1) g _ _ hw)
      have HBY := Lib.hid (refBytes _ l _ (SeqAt.of_owns ho) (by omega))
      obtain ⟨A5, cp5, hv5, _⟩ := (SeqS.of_owns ho).form
      rw [hv5] at HBY
      rw [hv5]
      clear ho hw hv5
      go_wp2_with fail
      refine HLN.out.mono ?_
      rintro e w' ⟨rfl, rfl⟩
      go_wp2_with fail
      refine HST.out.mono ?_
      rintro e w' ⟨rfl, rfl⟩
      go_wp2_with fail
      refine HBY.out.mono ?_
      rintro e w2 ⟨rfl, hb2⟩
      go_wp2
      go_ret
      exact ⟨rfl, hb.trans (hb2.mono hb.size)⟩
end Go.Proofs.Ytnhbeddmphlieaa
