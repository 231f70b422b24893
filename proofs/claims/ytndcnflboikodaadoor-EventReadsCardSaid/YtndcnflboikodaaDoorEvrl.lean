/-
  The document's event of a line (layer 15).
-/
import Derived.Test.YtndcnflboikodaaDoorEvnr
import Derived.Test.YtndcnflboikodaaDoorEvlr
namespace Go.Proofs.YtndcnflboikodaaDoor
open Go.RowKit
set_option linter.unusedVariables false
set_option linter.unusedSimpArgs false
theorem cut_mid (bs : List UInt8) (a k : Nat) : (textB bs).extract a k = textB ((bs.drop a).take (k - a)) := by
  apply eq_of_data
  simp [textB]
/-- In the course of the words' loop. -/
structure RwS (bs : List UInt8) (at_ k : Nat) (ws : List (List UInt8)) : Prop where
  le : at_ ≤ k
  no : ∀ w ∈ ws, (32 : UInt8) ∉ w
  piece : (32 : UInt8) ∉ (bs.drop at_).take (k - at_)
  join : (ws = [] ∧ bs.drop at_ = bs) ∨ (ws ≠ [] ∧ joinW 32 ws ++ 32 :: bs.drop at_ = bs)
theorem RwS.start (bs : List UInt8) : RwS bs 0 0 [] := ⟨Nat.le_refl _, by simp, by simp, .inl ⟨rfl, rfl⟩⟩
theorem piece_next {bs : List UInt8} {a k : Nat} {c : UInt8} (ha : a ≤ k) (hc : bs[k]? = some c) : (bs.drop a).take (k + 1 - a) = (bs.drop a).take (k - a) ++ [c] := by
  rw [show k + 1 - a = (k - a) + 1 by omega, List.take_add_one, List.getElem?_drop, show a + (k - a) = k by omega, hc]; rfl
theorem RwS.other {bs : List UInt8} {a k : Nat} {ws : List (List UInt8)} {c : UInt8} (h : RwS bs a k ws) (hc : bs[k]? = some c) (hne : c ≠ 32) : RwS bs a (k + 1) ws := by
  refine ⟨Nat.le_succ_of_le h.le, h.no, ?_, h.join⟩
  rw [piece_next h.le hc, List.mem_append, List.mem_singleton]
  rintro (hm | hm)
  · exact h.piece hm
  · exact hne hm.symm
theorem RwS.word {bs : List UInt8} {a k : Nat} {ws : List (List UInt8)} (h : RwS bs a k ws) (hc : bs[k]? = some 32) : RwS bs (k + 1) (k + 1) (ws ++ [(bs.drop a).take (k - a)]) := by
  have hkl := (List.getElem?_eq_some_iff.1 hc).1
  have hd : bs.drop a = (bs.drop a).take (k - a) ++ 32 :: bs.drop (k + 1) := by
    have h1 := List.take_append_drop (k - a) (bs.drop a)
    rw [List.drop_drop, show a + (k - a) = k by have := h.le; omega, List.drop_eq_getElem_cons hkl, (List.getElem?_eq_some_iff.1 hc).2] at h1
    exact h1.symm
  refine ⟨Nat.le_refl _, fun w hw => ?_, by simp, ?_⟩
  · rw [List.mem_append, List.mem_singleton] at hw
    rcases hw with hw | rfl
    · exact h.no w hw
    · exact h.piece
  · refine .inr ?_
    have hj := h.join
    rw [hd] at hj
    exact words_next hj
theorem RwS.last {bs : List UInt8} {a : Nat} {ws : List (List UInt8)} (h : RwS bs a bs.length ws) : WordsOf 32 bs (ws ++ [(bs.drop a).take (bs.length - a)]) := by
  have hp := h.piece
  rw [List.take_of_length_le (by simp)] at hp ⊢
  exact words_last h.no hp h.join
theorem RwS.size {bs : List UInt8} {a k : Nat} {ws : List (List UInt8)} (h : RwS bs a k ws) : ws.length ≤ bs.length + 1 := by
  rcases h.join with ⟨h, _⟩ | ⟨_, h⟩
  · rw [h]; simp
  · have h1 := joinW_ge (c := 32) ws
    have h2 := congrArg List.length h
    simp only [List.length_append, List.length_cons] at h2
    omega
/-- The kind that the names' loop has come to. -/
def kvE (s : ByteArray) (k : Nat) : Nat := if efN s < k then efN s else 0
theorem kvE_start (s : ByteArray) : kvE s 1 = 0 := by unfold kvE; split <;> omega
theorem kvE_hit {s : ByteArray} {k : Nat} (h1 : 1 ≤ k) (h2 : k ≤ 15) (h : evnB (k : Int) = s) : kvE s (k + 1) = k := by
  have hk : kindB (k : Int) = true := kindB_iff.2 (by omega)
  have := efN_name hk
  rw [h] at this
  unfold kvE
  rw [if_pos (by omega)]; omega
theorem kvE_miss {s : ByteArray} {k : Nat} (h1 : 1 ≤ k) (h2 : k ≤ 15) (h : evnB (k : Int) ≠ s) : kvE s (k + 1) = kvE s k := by
  have hne : efN s ≠ k := fun e => by
    have h3 := efN_get (s := s) (by omega)
    rw [e] at h3
    apply h
    rw [evn_get (kindB_iff.2 (by omega)), Int.toNat_natCast]
    exact h3.2.2
  unfold kvE
  by_cases hl : efN s < k
  · rw [if_pos hl, if_pos (by omega)]
  · rw [if_neg hl, if_neg (by omega)]
theorem kvE_end (s : ByteArray) : kvE s 16 = efN s := by unfold kvE; rw [if_pos (by have := efN_le s; omega)]
def m100 (n : Nat) : Nat := if n < 100 then n else 100
theorem m100_small {n : Nat} (h : n ≤ 7) : m100 n = n := if_pos (by omega)
/-- The event that the document's ReadLine reckons. -/
def rrX (K : Nat) (w0 : List UInt8) (fs : List (List UInt8)) : Ev := ⟨(m100 (rnE w0) : Nat), (K : Int), if ringB (K : Int) = true then (m100 (rnE (fs.getD 0 [])) : Nat) else 0, if ticketB (K : Int) = true then rnE (fs.getD 1 []) else 0, if valueB (K : Int) = true then rnE (fs.getD 0 []) else 0⟩
theorem rr_complete {bs : List UInt8} {ws : List (List UInt8)} (hw : WordsOf 32 bs ws) {y : Ev} (hy : rightE y = true) (hv : y.vl ≤ 18446744073709551615) (hl : lineE y = bs) :
    ∃ w0 w1 fs, ws = w0 :: w1 :: fs ∧ fs.length = rlC (efN (textB w1)) ∧ rrX (efN (textB w1)) w0 fs = y := by
  have hws : ws = evW y := joinW_inj hw.no (evW_no y (c := 32) (by decide)) hw.ne (by simp [evW]) (hw.join.trans hl.symm)
  obtain ⟨hk, ⟨r1, r2, r3, r4, r5⟩, q1, q2, q3⟩ := right_parts hy
  have hef : (efN (textB (nameW y.kd)) : Int) = y.kd := by rw [nameW_text]; exact efN_name hk
  have hkk := kindB_iff.1 hk
  obtain ⟨th, kd, rg, tk, vl⟩ := y
  simp only at *
  obtain ⟨tn, rfl⟩ : ∃ tn : Nat, th = tn := ⟨th.toNat, by omega⟩
  obtain ⟨rn, rfl⟩ : ∃ rn : Nat, rg = rn := ⟨rg.toNat, by omega⟩
  obtain ⟨K, rfl⟩ : ∃ K : Nat, kd = K := ⟨kd.toNat, by omega⟩
  have hef : efN (textB (nameW (K : Int))) = K := by omega
  unfold evW at hws
  simp only [Int.toNat_natCast] at hws
  refine ⟨_, _, _, hws, ?_⟩
  rw [hef]
  unfold rrX rlC
  rw [rnE_dec (by omega), m100_small (by omega)]
  rcases kinds_apart (K : Int) with ⟨h1, h2, h3⟩ | ⟨h1, h2, h3⟩ | ⟨h1, h2, h3⟩ | ⟨h1, h2, h3⟩
  all_goals
    simp only [h1, h2, h3, if_true, if_false, Bool.false_eq_true, false_or] at q1 q2 q3 ⊢
  · subst q3
    refine ⟨rfl, ?_⟩
    have z0 : (([decE rn] ++ ([decE tk] ++ [])) : List (List UInt8)).getD 0 [] = decE rn := rfl
    have z1 : (([decE rn] ++ ([decE tk] ++ [])) : List (List UInt8)).getD 1 [] = decE tk := rfl
    rw [z0, z1, rnE_dec (by omega), rnE_dec (by omega), m100_small (by omega)]
  · subst q2 q3
    refine ⟨rfl, ?_⟩
    have z0 : (([decE rn] ++ ([] ++ [])) : List (List UInt8)).getD 0 [] = decE rn := rfl
    rw [z0, rnE_dec (by omega), m100_small (by omega)]
  · subst q2
    have : rn = 0 := by omega
    subst this
    refine ⟨rfl, ?_⟩
    have z0 : (([] ++ ([] ++ [decE vl])) : List (List UInt8)).getD 0 [] = decE vl := rfl
    rw [z0, rnE_dec (by omega)]
    rfl
  · subst q2 q3
    have : rn = 0 := by omega
    subst this
    exact ⟨rfl, rfl⟩
theorem rr_len {bs : List UInt8} {ws : List (List UInt8)} (hw : WordsOf 32 bs ws) (h : ws.length < 2 ∨ 4 < ws.length) : LnIs bs ⟨0, 0, 0, 0, 0⟩ false :=
  .inr ⟨rfl, rfl, fun y hy hv hl => by
    obtain ⟨w0, w1, fs, rfl, hc, _⟩ := rr_complete hw hy hv hl
    have : rlC (efN (textB w1)) ≤ 2 := by unfold rlC; split <;> (try split) <;> (try split) <;> omega
    simp at h; omega⟩
theorem rr_cnt {bs w0 w1 : List UInt8} {fs : List (List UInt8)} (hw : WordsOf 32 bs (w0 :: w1 :: fs)) (h : fs.length ≠ rlC (efN (textB w1))) : LnIs bs ⟨0, 0, 0, 0, 0⟩ false :=
  .inr ⟨rfl, rfl, fun y hy hv hl => by
    obtain ⟨a, b, c, e, hc, _⟩ := rr_complete hw hy hv hl
    simp only [List.cons.injEq] at e
    obtain ⟨rfl, rfl, rfl⟩ := e
    exact h hc⟩
theorem rr_bad {bs w0 w1 : List UInt8} {fs : List (List UInt8)} (hw : WordsOf 32 bs (w0 :: w1 :: fs)) (h : rightE (rrX (efN (textB w1)) w0 fs) = false ∨ lineE (rrX (efN (textB w1)) w0 fs) ≠ bs) : LnIs bs ⟨0, 0, 0, 0, 0⟩ false :=
  .inr ⟨rfl, rfl, fun y hy hv hl => by
    obtain ⟨a, b, c, e, hc, hx⟩ := rr_complete hw hy hv hl
    simp only [List.cons.injEq] at e
    obtain ⟨rfl, rfl, rfl⟩ := e
    rw [hx] at h
    rcases h with h | h
    · rw [hy] at h; cases h
    · exact h hl⟩
theorem rrX_vl (K : Nat) (w0 : List UInt8) (fs : List (List UInt8)) : (rrX K w0 fs).vl ≤ 18446744073709551615 := by
  unfold rrX
  simp only
  split
  · have := rnE_lt (fs.getD 0 []); omega
  · omega
/-- What stands in the course of the document's ReadLine. -/
structure RrS (w q : World) (N0 ge g : Nat) (cs : List Value) (x : Ev) : Prop where
  bel : Below w.heap.size w q
  res : Lies q N0 24 (evC ev0)
  evt : Lies q ge 24 (evC x)
  row : ∀ i v, cs[i]? = some v → q.cell? ⟨g, i, none⟩ = some v
  gl : g < q.heap.size
  gen : w.heap.size ≤ ge
  nge : N0 ≠ ge
  gge : g ≠ ge
theorem RrS.below {w q q' : World} {N0 ge g : Nat} {cs : List Value} {x : Ev} (h : RrS w q N0 ge g cs x) (hb : Below q.heap.size q q') : RrS w q' N0 ge g cs x :=
  ⟨h.bel.trans (hb.mono h.bel.size), h.res.below hb h.res.lt, h.evt.below hb h.evt.lt, fun i v hv => (cell_keptN (Kept.of_below hb) h.gl (fun e => e)).trans (h.row i v hv), Nat.lt_of_lt_of_le h.gl hb.size, h.gen, h.nge, h.gge⟩
theorem RrS.put {w q : World} {N0 ge g : Nat} {cs : List Value} {x x' : Ev} (h : RrS w q N0 ge g cs x) (i : Nat) (u : Value) (hx : (evC x).setIfInBounds i u = evC x') : RrS w (q.setCell ⟨ge, i, none⟩ u) N0 ge g cs x' :=
  have hk := Kept.put q ge i u
  ⟨h.bel.trans (hk.below h.bel.size (fun j hj (e : j = ge) => by have := h.gen; omega)), h.res.far (p := ⟨ge, i, none⟩) h.nge u, (by have := h.evt.put i u; rwa [hx] at this), fun j v hv => (cell_keptN hk h.gl h.gge).trans (h.row j v hv), by simpa using h.gl, h.gen, h.nge, h.gge⟩
def rkV (ge g k nl cap : Nat) (wn : List UInt8) (b : Bool) : Nat → Value → World → Prop
  | 0, v, _ => v = .int .i64 (k : Int)
  | 1, v, _ => v = .string (evnB (k : Int))
  | 2, v, _ => v = .slice (some ⟨g, 0, none⟩) nl cap
  | 3, v, _ => v = .pointer (some ⟨g, 1, none⟩)
  | 4, v, _ => v = .string (textB wn)
  | 5, v, _ => v = .bool b
  | _, _, _ => True
theorem rkV_any {ge g k nl cap : Nat} {wn : List UInt8} {b : Bool} {w w' : World} {j : Nat} {u : Value} (h : rkV ge g k nl cap wn b j u w) : rkV ge g k nl cap wn b j u w' := by
  match j with
  | 0 => exact h
  | 1 => exact h
  | 2 => exact h
  | 3 => exact h
  | 4 => exact h
  | 5 => exact h
  | _ + 6 => trivial
set_option maxHeartbeats 16000000 in
set_option maxRecDepth 100000 in
theorem rfReadLine15 (bs : List UInt8) (w : World) (hbs : bs.length ≤ 8796093022000) :
    Calls Tryd.prog 36 #[.string (textB bs)] w (RlPost bs w) := by
  have hb0 : Below w.heap.size w (w.alloc (.cells (evC ev0) 24)) := (Below.refl _ _).alloc (Nat.le_refl _) _
  have l0 := Lies.made w 24 (evC ev0)
  have HB := Lib.hid hb0
  have HL := Lib.hid l0
  have HSZ : Hid ((textB bs).size = bs.length) := textB_size bs
  obtain ⟨N0, hN0⟩ : ∃ N, w.heap.size = N := ⟨_, rfl⟩
  have HN0 := Lib.hid hN0
  rw [hN0] at HL
  clear hb0 l0
  go_enter Tryd.func36, Tryd.ntmps36
  go_wp2_with fail
  try simp only [hN0]
  clear hN0
  generalize w.alloc (.cells (evC ev0) 24) = w1 at *
  have HST := Lib.hid (RwS.start bs)
  go_loopw [4, 5, 6] (fun v a i wr => ∃ (at_ k : Nat) (ws : List (List UInt8)), a = .int .i64 at_ ∧ i = .int .i64 k ∧ k ≤ bs.length + 1 ∧ at_ ≤ bs.length + 1 ∧ Hid (k = bs.length + 1 → WordsOf 32 bs ws) ∧ Hid (k ≤ bs.length → RwS bs at_ k ws) ∧ Hid (wr.ownsRow w.heap.size 9 1 v ws.length (cellsW ws)) ∧ Hid (Below w.heap.size w wr) ∧ Hid (Lies wr N0 24 (evC ev0))) (fun _ _ i _ => bs.length + 1 - (intOf i).toNat)
  case atStart => exact ⟨0, 0, [], rfl, rfl, by omega, by omega, (fun h => by omega), (fun _ => HST.out), World.ownsRow_nil _ _ _ _, HB, HL⟩
  case round =>
    clear HB HL HST
    obtain ⟨at_, k, ws, rfl, rfl, hk, hat, HA, HR, HO, HB, HL⟩ := hrel
    obtain ⟨A9, c9, rfl⟩ := own_sliceD HO.out
    have hz := HB.out.size
    by_cases hkl : k ≤ bs.length
    · have HR2 := Lib.hid (HR.out hkl)
      have hak := HR2.out.le
      have hwl := HR2.out.size
      clear HA HR
      have hkI : (k : Int) ≤ ((textB bs).size : Int) := by rw [HSZ.out]; omega
      have HMID := Lib.hid (cut_mid bs at_ k)
      obtain ⟨p, hp⟩ : ∃ p, (bs.drop at_).take (k - at_) = p := ⟨_, rfl⟩
      have HP := Lib.hid hp
      rw [hp] at HMID
      clear hp
      by_cases hke : k = bs.length
      · have e1 : ((k : Int) == ((textB bs).size : Int)) = true := by rw [beq_iff_eq, HSZ.out]; omega
        have HW : Hid (WordsOf 32 bs (ws ++ [p])) := by
          have hh := HR2.out
          subst hke
          have := hh.last
          rwa [HP.out] at this
        clear hke
        go_wp2_with (at_builtin; refine append_one _ (.string ((textB bs).extract at_ k)) rfl (.tmp 28) (.tmp 33) 57 rfl w.heap.size 9 _ _ Tryd.underlying57 Tryd.infoStr9 rfl rfl _ _ _ rfl HO.out rfl (by unfold maxLen; omega) (by omega) hz ?_)
        intro v3 w3 ho hb hgr
        rw [HMID.out, cellsW_push] at ho
        have HO3 : Hid (w3.ownsRow w.heap.size 9 1 v3 (ws ++ [p]).length (cellsW (ws ++ [p]))) := by
          show World.ownsRow _ _ _ _ _ _ _
          rw [List.length_append]; exact ho
        have HB3 := Lib.hid (HB.out.trans hb)
        have HL3 := Lib.hid (HL.out.kept (kept_grown hgr) (fun e => own_ne HO.out HL.out (by decide) e))
        have HA3 : Hid (k + 1 = bs.length + 1 → WordsOf 32 bs (ws ++ [p])) := fun _ => HW.out
        have HR3 : Hid (k + 1 ≤ bs.length → RwS bs (k + 1) (k + 1) (ws ++ [p])) := fun h => by
          exfalso
          have := of_decide_eq_true e1; rw [HSZ.out] at this; omega
        obtain ⟨A9, c9, rfl⟩ := own_sliceD ho
        clear ho hb hgr HO HB HL e1
        go_wp2
        go_roundw
        case rel => exact ⟨k + 1, k + 1, ws ++ [p], by go_num, by go_num, by omega, by omega, HA3, HR3, HO3, HB3, HL3⟩
        case measure => simp [intOf]; omega
      · obtain ⟨c2, hc2⟩ : ∃ c2, bs[k]? = some c2 := ⟨_, List.getElem?_eq_getElem (by omega)⟩
        have e1 : ((k : Int) == ((textB bs).size : Int)) = false := by rw [beq_eq_false_iff_ne, HSZ.out]; omega
        have hki2 : (k : Int) < ((textB bs).size : Int) := by rw [HSZ.out]; omega
        have hx0 := text_get hc2 (by rw [HSZ.out]; omega)
        by_cases h32 : c2 = 32
        · subst h32
          have HW := Lib.hid (HR2.out.word hc2)
          rw [HP.out] at HW
          have hx0 : ((textB bs)[k]'(by rw [HSZ.out]; omega)).toNat = 32 := hx0
          clear hc2
          go_wp2_with (at_builtin; refine append_one _ (.string ((textB bs).extract at_ k)) rfl (.tmp 28) (.tmp 33) 57 rfl w.heap.size 9 _ _ Tryd.underlying57 Tryd.infoStr9 rfl rfl _ _ _ rfl HO.out rfl (by unfold maxLen; omega) (by omega) hz ?_)
          intro v3 w3 ho hb hgr
          rw [HMID.out, cellsW_push] at ho
          have HO3 : Hid (w3.ownsRow w.heap.size 9 1 v3 (ws ++ [p]).length (cellsW (ws ++ [p]))) := by
            show World.ownsRow _ _ _ _ _ _ _
            rw [List.length_append]; exact ho
          have HB3 := Lib.hid (HB.out.trans hb)
          have HL3 := Lib.hid (HL.out.kept (kept_grown hgr) (fun e => own_ne HO.out HL.out (by decide) e))
          obtain ⟨A9, c9, rfl⟩ := own_sliceD ho
          clear ho hb hgr HO HB HL e1 hx0
          go_wp2
          go_roundw
          case rel => exact ⟨k + 1, k + 1, ws ++ [p], by go_num, by go_num, by omega, by omega, (fun h => by omega), (fun _ => HW.out), HO3, HB3, HL3⟩
          case measure => simp [intOf]; omega
        · have HW := Lib.hid (HR2.out.other hc2 h32)
          obtain ⟨x, hx⟩ : ∃ x, c2.toNat = x := ⟨_, rfl⟩
          have hxne : x ≠ 32 := fun e => h32 (UInt8.toNat_inj.1 (by rw [hx, e]; rfl))
          rw [hx] at hx0
          have e2 : ((x : Int) == (32 : Int)) = false := by rw [beq_eq_false_iff_ne]; omega
          have e3 : (x == 32) = false := by rw [beq_eq_false_iff_ne]; exact hxne
          clear hc2 h32 hx hxne
          go_wp2
          go_roundw
          case rel => exact ⟨at_, k + 1, ws, rfl, by go_num, by omega, by omega, (fun h => by omega), (fun _ => HW.out), HO, HB, HL⟩
          case measure => simp [intOf]; omega
    · obtain rfl : k = bs.length + 1 := by omega
      have HW := Lib.hid (HA.out rfl)
      have hki : ¬ (((bs.length + 1 : Nat) : Int) ≤ ((textB bs).size : Int)) := by rw [HSZ.out]; omega
      clear HA HR hkl
      by_cases hlen : ws.length < 2 ∨ 4 < ws.length
      · have HLN := Lib.hid (rr_len HW.out hlen)
        have hcs : (decide (ws.length < 2) = true ∧ decide ((ws.length : Int) < 2) = true) ∨ (decide (ws.length < 2) = false ∧ decide ((ws.length : Int) < 2) = false ∧ decide (4 < ws.length) = true ∧ decide ((4 : Int) < (ws.length : Int)) = true) := by
          by_cases h2 : ws.length < 2
          · exact .inl ⟨decide_eq_true h2, decide_eq_true (by omega)⟩
          · exact .inr ⟨decide_eq_false h2, decide_eq_false (by omega), decide_eq_true (by omega), decide_eq_true (by omega)⟩
        have lt := (HL).out.lt
        have f0 := (HL).out.free 0
        have f1 := (HL).out.free 1
        have f2 := (HL).out.free 2
        have f3 := (HL).out.free 3
        have f4 := (HL).out.free 4
        have r0 := ((HL).out.cell 0).trans (show _ = some (Value.int .i64 0) from rfl)
        have r1 := ((HL).out.cell 1).trans (show _ = some (Value.int .i64 0) from rfl)
        have r2 := ((HL).out.cell 2).trans (show _ = some (Value.int .i64 0) from rfl)
        have r3 := ((HL).out.cell 3).trans (show _ = some (Value.int .u64 0) from rfl)
        have r4 := ((HL).out.cell 4).trans (show _ = some (Value.int .u64 0) from rfl)
        have HBR := Lib.hid (below_res5 HB.out N0 (.int .i64 0) (.int .i64 0) (.int .i64 0) (.int .u64 0) (.int .u64 0) (Nat.le_of_eq HN0.out))
        have HLR := Lib.hid (((((HL.out.put 0 (.int .i64 0)).put 1 (.int .i64 0)).put 2 (.int .i64 0)).put 3 (.int .u64 0)).put 4 (.int .u64 0))
        have Q0 := Lib.hid ((HLR.out.cell 0).trans (show _ = some (Value.int .i64 (ev0).th) from rfl))
        have Q1 := Lib.hid ((HLR.out.cell 1).trans (show _ = some (Value.int .i64 (ev0).kd) from rfl))
        have Q2 := Lib.hid ((HLR.out.cell 2).trans (show _ = some (Value.int .i64 (ev0).rg) from rfl))
        have Q3 := Lib.hid ((HLR.out.cell 3).trans (show _ = some (Value.int .u64 ((ev0).tk : Int)) from rfl))
        have Q4 := Lib.hid ((HLR.out.cell 4).trans (show _ = some (Value.int .u64 ((ev0).vl : Int)) from rfl))
        clear hlen HW HO
        rcases hcs with ⟨e1, e2⟩ | ⟨e1, e2, e3, e4⟩
        all_goals
          go_wp2
          refine bodyPost_ret (v := .tuple #[.agg (evC ev0), .bool false]) (by simp [results, Tryd.results36, go_sem, Q0.out, Q1.out, Q2.out, Q3.out, Q4.out]) rfl ?_
          exact ⟨_, _, rfl, HLN.out, HBR.out⟩
      · obtain ⟨w0, wn, fs, rfl⟩ : ∃ a b l, ws = a :: b :: l := by
          match ws, hlen with
          | [], h => exact absurd (.inl (by simp)) h
          | [a], h => exact absurd (.inl (by simp)) h
          | a :: b :: l, _ => exact ⟨a, b, l, rfl⟩
        obtain ⟨nl, hnl⟩ : ∃ nl, (w0 :: wn :: fs).length = nl := ⟨_, rfl⟩
        have hfs : fs.length + 2 = nl := by rw [← hnl]; simp
        rw [hnl] at hlen HO
        have e1 : decide (nl < 2) = false := decide_eq_false (by omega)
        have e2 : decide ((nl : Int) < 2) = false := decide_eq_false (by omega)
        have e3 : decide (4 < nl) = false := decide_eq_false (by omega)
        have e4 : decide ((4 : Int) < (nl : Int)) = false := decide_eq_false (by omega)
        obtain ⟨g, cap, hv, hg1, hg2, hnc, hcm, hcell⟩ := ownsRow_open HO.out (by omega)
        simp only [Value.slice.injEq, true_and] at hv
        simp only [hnl]
        obtain ⟨rfl, hc9⟩ := hv
        have HCELL := Lib.hid hcell
        clear hcell
        have q0 := HCELL.out 0 (.string (textB w0)) rfl
        have ql := World.block_lt_of_cell? _ _ q0
        have hw0 : w0.length ≤ 140737488355328 := by
          have h1 := HW.out.join
          rw [joinW_cons] at h1
          have := congrArg List.length h1
          rw [List.length_append] at this
          omega
        have hmin : min ((rnE w0 : Nat) : Int) 100 = ((m100 (rnE w0) : Nat) : Int) := by
          unfold m100
          split <;> omega
        have hm1 : m100 (rnE w0) ≤ 100 := by unfold m100; split <;> omega
        clear hlen hnl
        go_wp2_with fail
        refine (rfNum15 w0 _ hw0).mono ?_
        rintro e w' ⟨rfl, rfl⟩
        go_upto_region 12 with (fail)
        obtain ⟨m0, hm0⟩ : ∃ m, m100 (rnE w0) = m := ⟨_, rfl⟩
        have HM0 := Lib.hid hm0
        simp only [hm0]
        rw [hm0] at hm1
        clear hm0 hmin
        have hbx : Below wr.heap.size wr (wr.alloc (.cells (evC ⟨m0, 0, 0, 0, 0⟩) 24)) := (Below.refl _ _).alloc (Nat.le_refl _) _
        have hn0l := HL.out.lt
        have HS := Lib.hid (show RrS w (wr.alloc (.cells (evC ⟨m0, 0, 0, 0, 0⟩) 24)) N0 wr.heap.size g (cellsW (w0 :: wn :: fs)) ⟨m0, 0, 0, 0, 0⟩ from
          ⟨HB.out.trans (hbx.mono HB.out.size), HL.out.below hbx HL.out.lt, Lies.made _ _ _, fun i v hv => (cell_keptN (Kept.of_below hbx) ql (fun e => e)).trans (HCELL.out i v hv), by simp; omega, HB.out.size, by omega, by omega⟩)
        clear hbx HB HL HO HCELL q0 ql hg1 hg2 e1 e2 e3 e4 hz hki hn0l
        generalize wr.heap.size = ge at *
        generalize wr.alloc (.cells (evC ⟨m0, 0, 0, 0, 0⟩) 24) = w4 at *
        have HST : Hid (kvE (textB wn) 1 = 0) := kvE_start _
        go_wp2_with fail
        go_loopw [8] (fun u wq => ∃ k : Nat, 1 ≤ k ∧ k ≤ 16 ∧ u = .int .i64 k ∧ Hid (RrS w wq N0 ge g (cellsW (w0 :: wn :: fs)) ⟨m0, kvE (textB wn) k, 0, 0, 0⟩)) (fun u _ => 16 - (intOf u).toNat)
        case atStart => exact ⟨1, by omega, by omega, rfl, by rw [HST.out]; exact HS⟩
        case round =>
          clear HS HST
          obtain ⟨k, hk1, hk2, rfl, HS⟩ := hrel
          by_cases hlt : k ≤ 15
          · have hii : (k : Int) ≤ 15 := by omega
            obtain ⟨b, hb⟩ : ∃ b, ((evnB (k : Int)).toList == (textB wn).toList) = b := ⟨_, rfl⟩
            have HBB := Lib.hid hb
            have HHIT := Lib.hid (fun h => kvE_hit (s := textB wn) hk1 hlt h)
            have HMIS := Lib.hid (fun h => kvE_miss (s := textB wn) hk1 hlt h)
            go_wp2_with fail
            refine wp_region_rely (fun q => RrS w q N0 ge g (cellsW (w0 :: wn :: fs)) ⟨m0, kvE (textB wn) k, 0, 0, 0⟩) (rkV ge g k nl cap wn b) [some 57, some 58, some 59, some 60, some 61, some 62] [[], [0], [], [2], [3], [1, 4]] [[], [0], [], [2], [2, 3], [0, 1, 3, 4]] [[2, 3, 4, 5], [2, 3, 4], [0, 1, 4, 5], [0, 1, 5], [0, 1], []] [0, 1, 2, 3, 4, 5] 6 (by kernel_rfl) (by kernel_rfl) (by kernel_rfl) (by kernel_rfl) ?rS (fun j h1 h2 => absurd (Nat.lt_of_lt_of_le h1 (Nat.le_trans (by decide) h2)) (Nat.lt_irrefl _)) ?rT ?rE
            case rS => exact HS.out.below (below_drewN (Below.refl _ _) 1)
            case rT =>
              refine RelySteps.cons (RelyStep.mk [] [2, 3, 4, 5] rfl rfl rfl (fun xv wS hS hV bq hb K hK => ?_)) ?_
              · clear hV
                simp only [putsOf, List.foldl_cons, List.foldl_nil, List.getD_cons_zero, List.getD_cons_succ, List.getD_nil, cond_true, cond_false, Act.put, List.setIfInBounds_toArray, List.set_cons_zero, List.set_cons_succ] at hb
                subst hb
                rw [if_pos (by rfl)]
                go_wp2_with fail
                exact hK.out _ _ ⟨_, rfl, hS, rfl, AllP.same _⟩
              refine RelySteps.cons (RelyStep.mk [0] [2, 3, 4] rfl rfl rfl (fun xv wS hS hV bq hb K hK => ?_)) ?_
              · obtain ⟨h0, _⟩ := hV
                have h0 : xv 0 = _ := h0
                simp only [putsOf, List.foldl_cons, List.foldl_nil, List.getD_cons_zero, List.getD_cons_succ, List.getD_nil, cond_true, cond_false, Act.put, List.setIfInBounds_toArray, List.set_cons_zero, List.set_cons_succ, h0] at hb
                clear h0
                subst hb
                rw [if_pos (by rfl)]
                have HSS := Lib.hid hS
                clear hS
                go_wp2_with fail
                refine (rfEvName (k : Int) wS).mono ?_
                rintro e w' ⟨rfl, hbm⟩
                exact hK.out _ _ ⟨_, rfl, HSS.out.below hbm, rfl, AllP.of _ (fun j _ u h => rkV_any h)⟩
              refine RelySteps.cons (RelyStep.mk [] [0, 1, 4, 5] rfl rfl rfl (fun xv wS hS hV bq hb K hK => ?_)) ?_
              · clear hV
                simp only [putsOf, List.foldl_cons, List.foldl_nil, List.getD_cons_zero, List.getD_cons_succ, List.getD_nil, cond_true, cond_false, Act.put, List.setIfInBounds_toArray, List.set_cons_zero, List.set_cons_succ] at hb
                subst hb
                rw [if_pos (by rfl)]
                go_wp2_with fail
                exact hK.out _ _ ⟨_, rfl, hS, rfl, AllP.same _⟩
              refine RelySteps.cons (RelyStep.mk [2] [0, 1, 5] rfl rfl rfl (fun xv wS hS hV bq hb K hK => ?_)) ?_
              · obtain ⟨h2, _⟩ := hV
                have h2 : xv 2 = _ := h2
                simp only [putsOf, List.foldl_cons, List.foldl_nil, List.getD_cons_zero, List.getD_cons_succ, List.getD_nil, cond_true, cond_false, Act.put, List.setIfInBounds_toArray, List.set_cons_zero, List.set_cons_succ, h2] at hb
                clear h2
                subst hb
                rw [if_pos (by rfl)]
                go_wp2_with fail
                exact hK.out _ _ ⟨_, rfl, hS, rfl, AllP.same _⟩
              refine RelySteps.cons (RelyStep.mk [3] [0, 1] rfl rfl rfl (fun xv wS hS hV bq hb K hK => ?_)) ?_
              · obtain ⟨h3, _⟩ := hV
                have h3 : xv 3 = _ := h3
                simp only [putsOf, List.foldl_cons, List.foldl_nil, List.getD_cons_zero, List.getD_cons_succ, List.getD_nil, cond_true, cond_false, Act.put, List.setIfInBounds_toArray, List.set_cons_zero, List.set_cons_succ, h3] at hb
                clear h3
                subst hb
                rw [if_pos (by rfl)]
                (have c1 := hS.row 1 (.string (textB wn)) rfl; have c2 := hS.gl)
                go_wp2_with fail
                exact hK.out _ _ ⟨_, rfl, hS, rfl, AllP.same _⟩
              refine RelySteps.cons (RelyStep.mk [1, 4] [] rfl rfl rfl (fun xv wS hS hV bq hb K hK => ?_)) ?_
              · obtain ⟨h1, h4, _⟩ := hV
                have h1 : xv 1 = _ := h1
                have h4 : xv 4 = _ := h4
                simp only [putsOf, List.foldl_cons, List.foldl_nil, List.getD_cons_zero, List.getD_cons_succ, List.getD_nil, cond_true, cond_false, Act.put, List.setIfInBounds_toArray, List.set_cons_zero, List.set_cons_succ, h1, h4] at hb
                clear h1
                clear h4
                subst hb
                rw [if_pos (by rfl)]
                have HSS := Lib.hid hS
                clear hS
                go_wp2_with fail
                exact hK.out _ _ ⟨_, rfl, HSS.out, (by first | rfl | (show Value.bool _ = Value.bool b; rw [HBB.out])), AllP.same _⟩
              exact RelySteps.nil
            case rE =>
              intro xv wE hS hV
              have h5 := hV 5 (by decide) (by decide)
              clear hV
              simp only [putsOf, List.foldl_cons, List.foldl_nil, List.getD_cons_zero, List.getD_cons_succ, List.getD_nil, cond_true, cond_false, Act.put, List.setIfInBounds_toArray, List.set_cons_zero, List.set_cons_succ]
              have h5 : xv 5 = _ := h5
              rw [h5]; clear h5
              generalize xv 0 = y0 at *
              generalize xv 1 = y1 at *
              generalize xv 2 = y2 at *
              generalize xv 3 = y3 at *
              generalize xv 4 = y4 at *
              have HS2 := Lib.hid hS
              clear hS HS hb
              cases b with
              | false =>
                have hne : evnB (k : Int) ≠ textB wn := fun e => by
                  have := HBB.out
                  rw [e] at this
                  simp at this
                have HKV := Lib.hid (HMIS.out hne)
                clear hne HHIT HMIS HBB
                go_wp2
                go_roundw
                case rel => exact ⟨k + 1, by omega, by omega, by go_num, by rw [HKV.out]; exact HS2⟩
                case measure => simp [intOf]; omega
              | true =>
                have hne : evnB (k : Int) = textB wn := by
                  have h9 := eq_of_beq HBB.out
                  rw [ByteArray.toList_eq, ByteArray.toList_eq] at h9
                  exact eq_of_data h9
                have HKV := Lib.hid (HHIT.out hne)
                clear hne HHIT HMIS HBB
                have f9 := HS2.out.evt.free 1
                have l9 := HS2.out.evt.lt
                have p9 := (HS2.out.evt.cell 1).trans (show _ = some (Value.int .i64 (kvE (textB wn) k : Nat)) from rfl)
                have HS3 := Lib.hid (HS2.out.put 1 (.int .i64 (k : Int)) (x' := ⟨m0, (k : Int), 0, 0, 0⟩) rfl)
                clear HS2
                go_wp2
                go_roundw
                case rel => exact ⟨k + 1, by omega, by omega, by go_num, by rw [HKV.out]; exact HS3⟩
                case measure => simp [intOf]; omega
          · obtain rfl : k = 16 := by omega
            rw [kvE_end] at HS
            obtain ⟨K, hK⟩ : ∃ K, efN (textB wn) = K := ⟨_, rfl⟩
            have HK := Lib.hid hK
            rw [hK] at HS
            have hK15 : K ≤ 15 := by rw [← hK]; exact efN_le _
            have HCNT : Hid (fs.length ≠ rlC K → LnIs bs ev0 false) := fun h => rr_cnt HW.out (by rw [HK.out]; exact h)
            have HBAD : Hid (rightE (rrX K w0 fs) = false ∨ lineE (rrX K w0 fs) ≠ bs → LnIs bs ev0 false) := fun h => rr_bad HW.out (by rw [HK.out]; exact h)
            have HOKK : Hid (rightE (rrX K w0 fs) = true → lineE (rrX K w0 fs) = bs → LnIs bs (rrX K w0 fs) true) := fun h1 h2 => .inl ⟨rfl, h1, h2, rrX_vl _ _ _⟩
            have HRX : Hid (rrX K w0 fs = ⟨(m0 : Nat), (K : Int), if ringB (K : Int) = true then (m100 (rnE (fs.getD 0 [])) : Nat) else 0, if ticketB (K : Int) = true then rnE (fs.getD 1 []) else 0, if valueB (K : Int) = true then rnE (fs.getD 0 []) else 0⟩) := by
              show _ = _
              rw [← HM0.out]; rfl
            have HRC : Hid (rlC K = if ticketB (K : Int) = true then 2 else if ringB (K : Int) = true then 1 else if valueB (K : Int) = true then 1 else 0) := rfl
            have HNB : Hid (nmsB (K : Int) = if ticketB (K : Int) = true then ⟨#[82, 84]⟩ else if ringB (K : Int) = true then ⟨#[82]⟩ else if valueB (K : Int) = true then ⟨#[86]⟩ else ⟨#[]⟩) := rfl
            have HFL : Hid (∀ f ∈ fs, f.length ≤ 140737488355328) := by
              have h1 := HW.out.join
              refine fun f hf => ?_
              have hm : ∀ (ws : List (List UInt8)), f ∈ ws → f.length ≤ (joinW 32 ws).length := by
                intro ws
                induction ws with
                | nil => intro h; cases h
                | cons a l ih =>
                  intro h
                  cases l with
                  | nil => simp at h; subst h; exact Nat.le_refl _
                  | cons b l =>
                    rw [joinW_cons, List.length_append, List.length_cons]
                    rcases List.mem_cons.1 h with rfl | h
                    · omega
                    · have := ih h; omega
              have h2 := hm (w0 :: wn :: fs) (by simp [hf])
              rw [h1] at h2
              omega
            have HFS := Lib.hid hfs
            clear hK hfs HW HM0 HK hlt hk1 hk2 hc9
            have p1 := (HS.out.evt.cell 1).trans (show _ = some (Value.int .i64 (K : Int)) from rfl)
            have pl := HS.out.evt.lt
            go_wp2_with fail
            refine (rfNames (K : Int) _).mono ?_
            rintro e w' ⟨rfl, rfl⟩
            rw [HNB.out]
            rcases kinds_apart (K : Int) with ⟨k1, k2, k3⟩ | ⟨k1, k2, k3⟩ | ⟨k1, k2, k3⟩ | ⟨k1, k2, k3⟩
            all_goals
              rw [k1, k2, k3] at HRX HRC
              rw [k1, k2, k3]
              simp only [if_true, if_false, Bool.false_eq_true] at HRX HRC ⊢
              clear k1 k2 k3 HNB p1 pl
            · by_cases hcn : fs.length = 2
              case neg =>
                have HLN := Lib.hid (HCNT.out (by rw [HRC.out]; exact hcn))
                have e1 : ((nl : Int) == 4) = false := by have := HFS.out; rw [beq_eq_false_iff_ne]; omega
                have e2 : ((nl : Int) != 4) = true := by have := HFS.out; rw [bne_iff_ne]; omega
                have e3 : (nl == 4) = false := by have := HFS.out; rw [beq_eq_false_iff_ne]; omega
                clear HCNT HBAD HOKK HRX HRC hcn HFL
                have lt := (HS).out.res.lt
                have f0 := (HS).out.res.free 0
                have f1 := (HS).out.res.free 1
                have f2 := (HS).out.res.free 2
                have f3 := (HS).out.res.free 3
                have f4 := (HS).out.res.free 4
                have r0 := ((HS).out.res.cell 0).trans (show _ = some (Value.int .i64 0) from rfl)
                have r1 := ((HS).out.res.cell 1).trans (show _ = some (Value.int .i64 0) from rfl)
                have r2 := ((HS).out.res.cell 2).trans (show _ = some (Value.int .i64 0) from rfl)
                have r3 := ((HS).out.res.cell 3).trans (show _ = some (Value.int .u64 0) from rfl)
                have r4 := ((HS).out.res.cell 4).trans (show _ = some (Value.int .u64 0) from rfl)
                have HBR := Lib.hid (below_res5 (HS).out.bel N0 (.int .i64 0) (.int .i64 0) (.int .i64 0) (.int .u64 0) (.int .u64 0) (Nat.le_of_eq HN0.out))
                have HLR := Lib.hid ((((((HS).out.res.put 0 (.int .i64 0)).put 1 (.int .i64 0)).put 2 (.int .i64 0)).put 3 (.int .u64 0)).put 4 (.int .u64 0))
                have Q0 := Lib.hid ((HLR.out.cell 0).trans (show _ = some (Value.int .i64 (ev0).th) from rfl))
                have Q1 := Lib.hid ((HLR.out.cell 1).trans (show _ = some (Value.int .i64 (ev0).kd) from rfl))
                have Q2 := Lib.hid ((HLR.out.cell 2).trans (show _ = some (Value.int .i64 (ev0).rg) from rfl))
                have Q3 := Lib.hid ((HLR.out.cell 3).trans (show _ = some (Value.int .u64 ((ev0).tk : Int)) from rfl))
                have Q4 := Lib.hid ((HLR.out.cell 4).trans (show _ = some (Value.int .u64 ((ev0).vl : Int)) from rfl))
                go_wp2
                refine bodyPost_ret (v := .tuple #[.agg (evC ev0), .bool false]) (by simp [results, Tryd.results36, go_sem, Q0.out, Q1.out, Q2.out, Q3.out, Q4.out]) rfl ?_
                exact ⟨_, _, rfl, HLN.out, HBR.out⟩
              have e1 : ((nl : Int) == 4) = true := by have := HFS.out; rw [beq_iff_eq]; omega
              have e2 : ((nl : Int) != 4) = false := by have := HFS.out; rw [bne_eq_false_iff_eq]; omega
              have e3 : (nl == 4) = true := by have := HFS.out; rw [beq_iff_eq]; omega
              have hnl9 : (nl : Int) = 4 := by have := HFS.out; omega
              clear HCNT HRC
              obtain ⟨f0, f1, rfl⟩ := two_of_length hcn
              have hl0 := HFL.out f0 (by simp)
              have hl1 := HFL.out f1 (by simp)
              have z0 : ([f0, f1] : List (List UInt8)).getD 0 [] = f0 := rfl
              have z1 : ([f0, f1] : List (List UInt8)).getD 1 [] = f1 := rfl
              rw [z0, z1] at HRX
              clear hcn HFL z0 z1 HFS
              have hm2 : min ((rnE f0 : Nat) : Int) 100 = ((m100 (rnE f0) : Nat) : Int) := by
                unfold m100
                split <;> omega
              have hm3 : m100 (rnE f0) ≤ 100 := by unfold m100; split <;> omega
              have hn1 := rnE_lt f1
              go_wp2_with fail
              refine wp_loop_rounds 3 ?_
              rw [rounds_succ]
              have a2 := (HS).out.row 2 (.string (textB f0)) rfl
              have al := (HS).out.gl
              go_wp2_with fail
              refine (rfNum15 f0 _ hl0).mono ?_
              rintro e w' ⟨rfl, rfl⟩
              clear a2 al
              have f9 := (HS).out.evt.free 2
              have l9 := (HS).out.evt.lt
              have p9 := ((HS).out.evt.cell 2).trans (show _ = some ((Value.int .i64 0)) from rfl)
              have HS3 := Lib.hid (HS.out.put 2 (.int .i64 ((m100 (rnE f0) : Nat) : Int)) (x' := ⟨m0, (K : Int), ((m100 (rnE f0) : Nat) : Int), 0, 0⟩) rfl)
              go_wp2_with fail
              clear f9 l9 p9 HS
              generalize World.setCell _ _ _ = wa at *
              rw [rounds_succ]
              have a2 := (HS3).out.row 3 (.string (textB f1)) rfl
              have al := (HS3).out.gl
              go_wp2_with fail
              refine (rfNum15 f1 _ hl1).mono ?_
              rintro e w' ⟨rfl, rfl⟩
              clear a2 al
              have f9 := (HS3).out.evt.free 3
              have l9 := (HS3).out.evt.lt
              have p9 := ((HS3).out.evt.cell 3).trans (show _ = some ((Value.int .u64 0)) from rfl)
              have HS4 := Lib.hid (HS3.out.put 3 (.int .u64 ((rnE f1 : Nat) : Int)) (x' := ⟨m0, (K : Int), ((m100 (rnE f0) : Nat) : Int), rnE f1, 0⟩) rfl)
              go_wp2_with fail
              clear f9 l9 p9 HS3
              generalize World.setCell _ _ _ = wb at *
              rw [rounds_succ]
              obtain ⟨x9, hx9⟩ : ∃ x, rrX K w0 ([f0, f1]) = x := ⟨_, rfl⟩
              have hxe := HRX.out
              rw [hx9] at hxe HBAD HOKK
              have hvl9 : x9.vl ≤ 18446744073709551615 := by rw [← hx9]; exact rrX_vl _ _ _
              have HT0 := (HS4).out
              rw [← hxe] at HT0
              have HT := Lib.hid HT0
              clear hxe HT0 HS4 HRX hx9
              have c0 := (HT.out.evt.cell 0).trans (show _ = some (Value.int .i64 x9.th) from rfl)
              have c1 := (HT.out.evt.cell 1).trans (show _ = some (Value.int .i64 x9.kd) from rfl)
              have c2 := (HT.out.evt.cell 2).trans (show _ = some (Value.int .i64 x9.rg) from rfl)
              have c3 := (HT.out.evt.cell 3).trans (show _ = some (Value.int .u64 (x9.tk : Int)) from rfl)
              have c4 := (HT.out.evt.cell 4).trans (show _ = some (Value.int .u64 (x9.vl : Int)) from rfl)
              have cl := HT.out.evt.lt
              go_wp2_with fail
              refine (rfRight15 x9 _).mono ?_
              rintro e wz ⟨rfl, hbz⟩
              have HU := Lib.hid (HT.out.below hbz)
              clear c0 c1 c2 c3 c4 cl HT hbz
              have HRP := Lib.hid (@right_parts x9)
              generalize rightE x9 = rr at *
              cases rr
              case false =>
                have HLN := Lib.hid (HBAD.out (.inl rfl))
                clear HBAD HOKK HRP
                have lt := (HU).out.res.lt
                have f0 := (HU).out.res.free 0
                have f1 := (HU).out.res.free 1
                have f2 := (HU).out.res.free 2
                have f3 := (HU).out.res.free 3
                have f4 := (HU).out.res.free 4
                have r0 := ((HU).out.res.cell 0).trans (show _ = some (Value.int .i64 0) from rfl)
                have r1 := ((HU).out.res.cell 1).trans (show _ = some (Value.int .i64 0) from rfl)
                have r2 := ((HU).out.res.cell 2).trans (show _ = some (Value.int .i64 0) from rfl)
                have r3 := ((HU).out.res.cell 3).trans (show _ = some (Value.int .u64 0) from rfl)
                have r4 := ((HU).out.res.cell 4).trans (show _ = some (Value.int .u64 0) from rfl)
                have HBR := Lib.hid (below_res5 (HU).out.bel N0 (.int .i64 0) (.int .i64 0) (.int .i64 0) (.int .u64 0) (.int .u64 0) (Nat.le_of_eq HN0.out))
                have HLR := Lib.hid ((((((HU).out.res.put 0 (.int .i64 0)).put 1 (.int .i64 0)).put 2 (.int .i64 0)).put 3 (.int .u64 0)).put 4 (.int .u64 0))
                have Q0 := Lib.hid ((HLR.out.cell 0).trans (show _ = some (Value.int .i64 (ev0).th) from rfl))
                have Q1 := Lib.hid ((HLR.out.cell 1).trans (show _ = some (Value.int .i64 (ev0).kd) from rfl))
                have Q2 := Lib.hid ((HLR.out.cell 2).trans (show _ = some (Value.int .i64 (ev0).rg) from rfl))
                have Q3 := Lib.hid ((HLR.out.cell 3).trans (show _ = some (Value.int .u64 ((ev0).tk : Int)) from rfl))
                have Q4 := Lib.hid ((HLR.out.cell 4).trans (show _ = some (Value.int .u64 ((ev0).vl : Int)) from rfl))
                go_wp2
                refine bodyPost_ret (v := .tuple #[.agg (evC ev0), .bool false]) (by simp [results, Tryd.results36, go_sem, Q0.out, Q1.out, Q2.out, Q3.out, Q4.out]) rfl ?_
                exact ⟨_, _, rfl, HLN.out, HBR.out⟩
              obtain ⟨k1, ⟨r1, r2, r3, r4, r5⟩, q1, q2, q3⟩ := HRP.out rfl
              clear q1 q2 q3
              have c0 := (HU.out.evt.cell 0).trans (show _ = some (Value.int .i64 x9.th) from rfl)
              have c1 := (HU.out.evt.cell 1).trans (show _ = some (Value.int .i64 x9.kd) from rfl)
              have c2 := (HU.out.evt.cell 2).trans (show _ = some (Value.int .i64 x9.rg) from rfl)
              have c3 := (HU.out.evt.cell 3).trans (show _ = some (Value.int .u64 (x9.tk : Int)) from rfl)
              have c4 := (HU.out.evt.cell 4).trans (show _ = some (Value.int .u64 (x9.vl : Int)) from rfl)
              have cl := HU.out.evt.lt
              
              go_wp2_with fail
              refine (rfLine15 x9 _ r1 (by omega) r3 (by omega) (by omega) hvl9).mono ?_
              rintro e wy ⟨rfl, hbz⟩
              have HV := Lib.hid (HU.out.below hbz)
              clear c0 c1 c2 c3 c4 cl HU hbz r1 r2 r3 r4 r5 k1 hvl9 HRP
              by_cases hle : lineE x9 = bs
              case neg =>
                have HLN := Lib.hid (HBAD.out (.inr hle))
                have hne : textB (lineE x9) ≠ textB bs := fun e => hle (by have := congrArg (fun s => s.data.toList) e; simpa [textB] using this)
                have e8 := text_ne hne
                clear HBAD HOKK hle hne
                have lt := (HV).out.res.lt
                have f0 := (HV).out.res.free 0
                have f1 := (HV).out.res.free 1
                have f2 := (HV).out.res.free 2
                have f3 := (HV).out.res.free 3
                have f4 := (HV).out.res.free 4
                have r0 := ((HV).out.res.cell 0).trans (show _ = some (Value.int .i64 0) from rfl)
                have r1 := ((HV).out.res.cell 1).trans (show _ = some (Value.int .i64 0) from rfl)
                have r2 := ((HV).out.res.cell 2).trans (show _ = some (Value.int .i64 0) from rfl)
                have r3 := ((HV).out.res.cell 3).trans (show _ = some (Value.int .u64 0) from rfl)
                have r4 := ((HV).out.res.cell 4).trans (show _ = some (Value.int .u64 0) from rfl)
                have HBR := Lib.hid (below_res5 (HV).out.bel N0 (.int .i64 0) (.int .i64 0) (.int .i64 0) (.int .u64 0) (.int .u64 0) (Nat.le_of_eq HN0.out))
                have HLR := Lib.hid ((((((HV).out.res.put 0 (.int .i64 0)).put 1 (.int .i64 0)).put 2 (.int .i64 0)).put 3 (.int .u64 0)).put 4 (.int .u64 0))
                have Q0 := Lib.hid ((HLR.out.cell 0).trans (show _ = some (Value.int .i64 (ev0).th) from rfl))
                have Q1 := Lib.hid ((HLR.out.cell 1).trans (show _ = some (Value.int .i64 (ev0).kd) from rfl))
                have Q2 := Lib.hid ((HLR.out.cell 2).trans (show _ = some (Value.int .i64 (ev0).rg) from rfl))
                have Q3 := Lib.hid ((HLR.out.cell 3).trans (show _ = some (Value.int .u64 ((ev0).tk : Int)) from rfl))
                have Q4 := Lib.hid ((HLR.out.cell 4).trans (show _ = some (Value.int .u64 ((ev0).vl : Int)) from rfl))
                go_wp2
                refine bodyPost_ret (v := .tuple #[.agg (evC ev0), .bool false]) (by simp [results, Tryd.results36, go_sem, Q0.out, Q1.out, Q2.out, Q3.out, Q4.out]) rfl ?_
                exact ⟨_, _, rfl, HLN.out, HBR.out⟩
              have HLN := Lib.hid (HOKK.out (by first | rfl | trivial) hle)
              rw [hle]
              clear HBAD HOKK hle
              have c0 := (HV.out.evt.cell 0).trans (show _ = some (Value.int .i64 x9.th) from rfl)
              have c1 := (HV.out.evt.cell 1).trans (show _ = some (Value.int .i64 x9.kd) from rfl)
              have c2 := (HV.out.evt.cell 2).trans (show _ = some (Value.int .i64 x9.rg) from rfl)
              have c3 := (HV.out.evt.cell 3).trans (show _ = some (Value.int .u64 (x9.tk : Int)) from rfl)
              have c4 := (HV.out.evt.cell 4).trans (show _ = some (Value.int .u64 (x9.vl : Int)) from rfl)
              have cl := HV.out.evt.lt
              have lt := (HV).out.res.lt
              have f0 := (HV).out.res.free 0
              have f1 := (HV).out.res.free 1
              have f2 := (HV).out.res.free 2
              have f3 := (HV).out.res.free 3
              have f4 := (HV).out.res.free 4
              have r0 := ((HV).out.res.cell 0).trans (show _ = some (Value.int .i64 0) from rfl)
              have r1 := ((HV).out.res.cell 1).trans (show _ = some (Value.int .i64 0) from rfl)
              have r2 := ((HV).out.res.cell 2).trans (show _ = some (Value.int .i64 0) from rfl)
              have r3 := ((HV).out.res.cell 3).trans (show _ = some (Value.int .u64 0) from rfl)
              have r4 := ((HV).out.res.cell 4).trans (show _ = some (Value.int .u64 0) from rfl)
              have HBR := Lib.hid (below_res5 HV.out.bel N0 (.int .i64 x9.th) (.int .i64 x9.kd) (.int .i64 x9.rg) (.int .u64 (x9.tk : Int)) (.int .u64 (x9.vl : Int)) (Nat.le_of_eq HN0.out))
              have HLR := Lib.hid (((((HV.out.res.put 0 (.int .i64 x9.th)).put 1 (.int .i64 x9.kd)).put 2 (.int .i64 x9.rg)).put 3 (.int .u64 (x9.tk : Int))).put 4 (.int .u64 (x9.vl : Int)))
              have Q0 := Lib.hid ((HLR.out.cell 0).trans (show _ = some (Value.int .i64 (x9).th) from rfl))
              have Q1 := Lib.hid ((HLR.out.cell 1).trans (show _ = some (Value.int .i64 (x9).kd) from rfl))
              have Q2 := Lib.hid ((HLR.out.cell 2).trans (show _ = some (Value.int .i64 (x9).rg) from rfl))
              have Q3 := Lib.hid ((HLR.out.cell 3).trans (show _ = some (Value.int .u64 ((x9).tk : Int)) from rfl))
              have Q4 := Lib.hid ((HLR.out.cell 4).trans (show _ = some (Value.int .u64 ((x9).vl : Int)) from rfl))
              go_wp2
              refine bodyPost_ret (v := .tuple #[.agg (evC x9), .bool true]) (by simp [results, Tryd.results36, go_sem, Q0.out, Q1.out, Q2.out, Q3.out, Q4.out]) rfl ?_
              exact ⟨_, _, rfl, HLN.out, HBR.out⟩
            · by_cases hcn : fs.length = 1
              case neg =>
                have HLN := Lib.hid (HCNT.out (by rw [HRC.out]; exact hcn))
                have e1 : ((nl : Int) == 3) = false := by have := HFS.out; rw [beq_eq_false_iff_ne]; omega
                have e2 : ((nl : Int) != 3) = true := by have := HFS.out; rw [bne_iff_ne]; omega
                have e3 : (nl == 3) = false := by have := HFS.out; rw [beq_eq_false_iff_ne]; omega
                clear HCNT HBAD HOKK HRX HRC hcn HFL
                have lt := (HS).out.res.lt
                have f0 := (HS).out.res.free 0
                have f1 := (HS).out.res.free 1
                have f2 := (HS).out.res.free 2
                have f3 := (HS).out.res.free 3
                have f4 := (HS).out.res.free 4
                have r0 := ((HS).out.res.cell 0).trans (show _ = some (Value.int .i64 0) from rfl)
                have r1 := ((HS).out.res.cell 1).trans (show _ = some (Value.int .i64 0) from rfl)
                have r2 := ((HS).out.res.cell 2).trans (show _ = some (Value.int .i64 0) from rfl)
                have r3 := ((HS).out.res.cell 3).trans (show _ = some (Value.int .u64 0) from rfl)
                have r4 := ((HS).out.res.cell 4).trans (show _ = some (Value.int .u64 0) from rfl)
                have HBR := Lib.hid (below_res5 (HS).out.bel N0 (.int .i64 0) (.int .i64 0) (.int .i64 0) (.int .u64 0) (.int .u64 0) (Nat.le_of_eq HN0.out))
                have HLR := Lib.hid ((((((HS).out.res.put 0 (.int .i64 0)).put 1 (.int .i64 0)).put 2 (.int .i64 0)).put 3 (.int .u64 0)).put 4 (.int .u64 0))
                have Q0 := Lib.hid ((HLR.out.cell 0).trans (show _ = some (Value.int .i64 (ev0).th) from rfl))
                have Q1 := Lib.hid ((HLR.out.cell 1).trans (show _ = some (Value.int .i64 (ev0).kd) from rfl))
                have Q2 := Lib.hid ((HLR.out.cell 2).trans (show _ = some (Value.int .i64 (ev0).rg) from rfl))
                have Q3 := Lib.hid ((HLR.out.cell 3).trans (show _ = some (Value.int .u64 ((ev0).tk : Int)) from rfl))
                have Q4 := Lib.hid ((HLR.out.cell 4).trans (show _ = some (Value.int .u64 ((ev0).vl : Int)) from rfl))
                go_wp2
                refine bodyPost_ret (v := .tuple #[.agg (evC ev0), .bool false]) (by simp [results, Tryd.results36, go_sem, Q0.out, Q1.out, Q2.out, Q3.out, Q4.out]) rfl ?_
                exact ⟨_, _, rfl, HLN.out, HBR.out⟩
              have e1 : ((nl : Int) == 3) = true := by have := HFS.out; rw [beq_iff_eq]; omega
              have e2 : ((nl : Int) != 3) = false := by have := HFS.out; rw [bne_eq_false_iff_eq]; omega
              have e3 : (nl == 3) = true := by have := HFS.out; rw [beq_iff_eq]; omega
              have hnl9 : (nl : Int) = 3 := by have := HFS.out; omega
              clear HCNT HRC
              obtain ⟨f0, rfl⟩ := one_of_length hcn
              have hl0 := HFL.out f0 (by simp)
              have z0 : ([f0] : List (List UInt8)).getD 0 [] = f0 := rfl
              rw [z0] at HRX
              clear hcn HFL z0 HFS
              have hm2 : min ((rnE f0 : Nat) : Int) 100 = ((m100 (rnE f0) : Nat) : Int) := by
                unfold m100
                split <;> omega
              have hm3 : m100 (rnE f0) ≤ 100 := by unfold m100; split <;> omega
              go_wp2_with fail
              refine wp_loop_rounds 2 ?_
              rw [rounds_succ]
              have a2 := (HS).out.row 2 (.string (textB f0)) rfl
              have al := (HS).out.gl
              go_wp2_with fail
              refine (rfNum15 f0 _ hl0).mono ?_
              rintro e w' ⟨rfl, rfl⟩
              clear a2 al
              have f9 := (HS).out.evt.free 2
              have l9 := (HS).out.evt.lt
              have p9 := ((HS).out.evt.cell 2).trans (show _ = some ((Value.int .i64 0)) from rfl)
              have HS4 := Lib.hid (HS.out.put 2 (.int .i64 ((m100 (rnE f0) : Nat) : Int)) (x' := ⟨m0, (K : Int), ((m100 (rnE f0) : Nat) : Int), 0, 0⟩) rfl)
              go_wp2_with fail
              clear f9 l9 p9 HS
              generalize World.setCell _ _ _ = wa at *
              rw [rounds_succ]
              obtain ⟨x9, hx9⟩ : ∃ x, rrX K w0 ([f0]) = x := ⟨_, rfl⟩
              have hxe := HRX.out
              rw [hx9] at hxe HBAD HOKK
              have hvl9 : x9.vl ≤ 18446744073709551615 := by rw [← hx9]; exact rrX_vl _ _ _
              have HT0 := (HS4).out
              rw [← hxe] at HT0
              have HT := Lib.hid HT0
              clear hxe HT0 HS4 HRX hx9
              have c0 := (HT.out.evt.cell 0).trans (show _ = some (Value.int .i64 x9.th) from rfl)
              have c1 := (HT.out.evt.cell 1).trans (show _ = some (Value.int .i64 x9.kd) from rfl)
              have c2 := (HT.out.evt.cell 2).trans (show _ = some (Value.int .i64 x9.rg) from rfl)
              have c3 := (HT.out.evt.cell 3).trans (show _ = some (Value.int .u64 (x9.tk : Int)) from rfl)
              have c4 := (HT.out.evt.cell 4).trans (show _ = some (Value.int .u64 (x9.vl : Int)) from rfl)
              have cl := HT.out.evt.lt
              go_wp2_with fail
              refine (rfRight15 x9 _).mono ?_
              rintro e wz ⟨rfl, hbz⟩
              have HU := Lib.hid (HT.out.below hbz)
              clear c0 c1 c2 c3 c4 cl HT hbz
              have HRP := Lib.hid (@right_parts x9)
              generalize rightE x9 = rr at *
              cases rr
              case false =>
                have HLN := Lib.hid (HBAD.out (.inl rfl))
                clear HBAD HOKK HRP
                have lt := (HU).out.res.lt
                have f0 := (HU).out.res.free 0
                have f1 := (HU).out.res.free 1
                have f2 := (HU).out.res.free 2
                have f3 := (HU).out.res.free 3
                have f4 := (HU).out.res.free 4
                have r0 := ((HU).out.res.cell 0).trans (show _ = some (Value.int .i64 0) from rfl)
                have r1 := ((HU).out.res.cell 1).trans (show _ = some (Value.int .i64 0) from rfl)
                have r2 := ((HU).out.res.cell 2).trans (show _ = some (Value.int .i64 0) from rfl)
                have r3 := ((HU).out.res.cell 3).trans (show _ = some (Value.int .u64 0) from rfl)
                have r4 := ((HU).out.res.cell 4).trans (show _ = some (Value.int .u64 0) from rfl)
                have HBR := Lib.hid (below_res5 (HU).out.bel N0 (.int .i64 0) (.int .i64 0) (.int .i64 0) (.int .u64 0) (.int .u64 0) (Nat.le_of_eq HN0.out))
                have HLR := Lib.hid ((((((HU).out.res.put 0 (.int .i64 0)).put 1 (.int .i64 0)).put 2 (.int .i64 0)).put 3 (.int .u64 0)).put 4 (.int .u64 0))
                have Q0 := Lib.hid ((HLR.out.cell 0).trans (show _ = some (Value.int .i64 (ev0).th) from rfl))
                have Q1 := Lib.hid ((HLR.out.cell 1).trans (show _ = some (Value.int .i64 (ev0).kd) from rfl))
                have Q2 := Lib.hid ((HLR.out.cell 2).trans (show _ = some (Value.int .i64 (ev0).rg) from rfl))
                have Q3 := Lib.hid ((HLR.out.cell 3).trans (show _ = some (Value.int .u64 ((ev0).tk : Int)) from rfl))
                have Q4 := Lib.hid ((HLR.out.cell 4).trans (show _ = some (Value.int .u64 ((ev0).vl : Int)) from rfl))
                go_wp2
                refine bodyPost_ret (v := .tuple #[.agg (evC ev0), .bool false]) (by simp [results, Tryd.results36, go_sem, Q0.out, Q1.out, Q2.out, Q3.out, Q4.out]) rfl ?_
                exact ⟨_, _, rfl, HLN.out, HBR.out⟩
              obtain ⟨k1, ⟨r1, r2, r3, r4, r5⟩, q1, q2, q3⟩ := HRP.out rfl
              clear q1 q2 q3
              have c0 := (HU.out.evt.cell 0).trans (show _ = some (Value.int .i64 x9.th) from rfl)
              have c1 := (HU.out.evt.cell 1).trans (show _ = some (Value.int .i64 x9.kd) from rfl)
              have c2 := (HU.out.evt.cell 2).trans (show _ = some (Value.int .i64 x9.rg) from rfl)
              have c3 := (HU.out.evt.cell 3).trans (show _ = some (Value.int .u64 (x9.tk : Int)) from rfl)
              have c4 := (HU.out.evt.cell 4).trans (show _ = some (Value.int .u64 (x9.vl : Int)) from rfl)
              have cl := HU.out.evt.lt
              
              go_wp2_with fail
              refine (rfLine15 x9 _ r1 (by omega) r3 (by omega) (by omega) hvl9).mono ?_
              rintro e wy ⟨rfl, hbz⟩
              have HV := Lib.hid (HU.out.below hbz)
              clear c0 c1 c2 c3 c4 cl HU hbz r1 r2 r3 r4 r5 k1 hvl9 HRP
              by_cases hle : lineE x9 = bs
              case neg =>
                have HLN := Lib.hid (HBAD.out (.inr hle))
                have hne : textB (lineE x9) ≠ textB bs := fun e => hle (by have := congrArg (fun s => s.data.toList) e; simpa [textB] using this)
                have e8 := text_ne hne
                clear HBAD HOKK hle hne
                have lt := (HV).out.res.lt
                have f0 := (HV).out.res.free 0
                have f1 := (HV).out.res.free 1
                have f2 := (HV).out.res.free 2
                have f3 := (HV).out.res.free 3
                have f4 := (HV).out.res.free 4
                have r0 := ((HV).out.res.cell 0).trans (show _ = some (Value.int .i64 0) from rfl)
                have r1 := ((HV).out.res.cell 1).trans (show _ = some (Value.int .i64 0) from rfl)
                have r2 := ((HV).out.res.cell 2).trans (show _ = some (Value.int .i64 0) from rfl)
                have r3 := ((HV).out.res.cell 3).trans (show _ = some (Value.int .u64 0) from rfl)
                have r4 := ((HV).out.res.cell 4).trans (show _ = some (Value.int .u64 0) from rfl)
                have HBR := Lib.hid (below_res5 (HV).out.bel N0 (.int .i64 0) (.int .i64 0) (.int .i64 0) (.int .u64 0) (.int .u64 0) (Nat.le_of_eq HN0.out))
                have HLR := Lib.hid ((((((HV).out.res.put 0 (.int .i64 0)).put 1 (.int .i64 0)).put 2 (.int .i64 0)).put 3 (.int .u64 0)).put 4 (.int .u64 0))
                have Q0 := Lib.hid ((HLR.out.cell 0).trans (show _ = some (Value.int .i64 (ev0).th) from rfl))
                have Q1 := Lib.hid ((HLR.out.cell 1).trans (show _ = some (Value.int .i64 (ev0).kd) from rfl))
                have Q2 := Lib.hid ((HLR.out.cell 2).trans (show _ = some (Value.int .i64 (ev0).rg) from rfl))
                have Q3 := Lib.hid ((HLR.out.cell 3).trans (show _ = some (Value.int .u64 ((ev0).tk : Int)) from rfl))
                have Q4 := Lib.hid ((HLR.out.cell 4).trans (show _ = some (Value.int .u64 ((ev0).vl : Int)) from rfl))
                go_wp2
                refine bodyPost_ret (v := .tuple #[.agg (evC ev0), .bool false]) (by simp [results, Tryd.results36, go_sem, Q0.out, Q1.out, Q2.out, Q3.out, Q4.out]) rfl ?_
                exact ⟨_, _, rfl, HLN.out, HBR.out⟩
              have HLN := Lib.hid (HOKK.out (by first | rfl | trivial) hle)
              rw [hle]
              clear HBAD HOKK hle
              have c0 := (HV.out.evt.cell 0).trans (show _ = some (Value.int .i64 x9.th) from rfl)
              have c1 := (HV.out.evt.cell 1).trans (show _ = some (Value.int .i64 x9.kd) from rfl)
              have c2 := (HV.out.evt.cell 2).trans (show _ = some (Value.int .i64 x9.rg) from rfl)
              have c3 := (HV.out.evt.cell 3).trans (show _ = some (Value.int .u64 (x9.tk : Int)) from rfl)
              have c4 := (HV.out.evt.cell 4).trans (show _ = some (Value.int .u64 (x9.vl : Int)) from rfl)
              have cl := HV.out.evt.lt
              have lt := (HV).out.res.lt
              have f0 := (HV).out.res.free 0
              have f1 := (HV).out.res.free 1
              have f2 := (HV).out.res.free 2
              have f3 := (HV).out.res.free 3
              have f4 := (HV).out.res.free 4
              have r0 := ((HV).out.res.cell 0).trans (show _ = some (Value.int .i64 0) from rfl)
              have r1 := ((HV).out.res.cell 1).trans (show _ = some (Value.int .i64 0) from rfl)
              have r2 := ((HV).out.res.cell 2).trans (show _ = some (Value.int .i64 0) from rfl)
              have r3 := ((HV).out.res.cell 3).trans (show _ = some (Value.int .u64 0) from rfl)
              have r4 := ((HV).out.res.cell 4).trans (show _ = some (Value.int .u64 0) from rfl)
              have HBR := Lib.hid (below_res5 HV.out.bel N0 (.int .i64 x9.th) (.int .i64 x9.kd) (.int .i64 x9.rg) (.int .u64 (x9.tk : Int)) (.int .u64 (x9.vl : Int)) (Nat.le_of_eq HN0.out))
              have HLR := Lib.hid (((((HV.out.res.put 0 (.int .i64 x9.th)).put 1 (.int .i64 x9.kd)).put 2 (.int .i64 x9.rg)).put 3 (.int .u64 (x9.tk : Int))).put 4 (.int .u64 (x9.vl : Int)))
              have Q0 := Lib.hid ((HLR.out.cell 0).trans (show _ = some (Value.int .i64 (x9).th) from rfl))
              have Q1 := Lib.hid ((HLR.out.cell 1).trans (show _ = some (Value.int .i64 (x9).kd) from rfl))
              have Q2 := Lib.hid ((HLR.out.cell 2).trans (show _ = some (Value.int .i64 (x9).rg) from rfl))
              have Q3 := Lib.hid ((HLR.out.cell 3).trans (show _ = some (Value.int .u64 ((x9).tk : Int)) from rfl))
              have Q4 := Lib.hid ((HLR.out.cell 4).trans (show _ = some (Value.int .u64 ((x9).vl : Int)) from rfl))
              go_wp2
              refine bodyPost_ret (v := .tuple #[.agg (evC x9), .bool true]) (by simp [results, Tryd.results36, go_sem, Q0.out, Q1.out, Q2.out, Q3.out, Q4.out]) rfl ?_
              exact ⟨_, _, rfl, HLN.out, HBR.out⟩
            · by_cases hcn : fs.length = 1
              case neg =>
                have HLN := Lib.hid (HCNT.out (by rw [HRC.out]; exact hcn))
                have e1 : ((nl : Int) == 3) = false := by have := HFS.out; rw [beq_eq_false_iff_ne]; omega
                have e2 : ((nl : Int) != 3) = true := by have := HFS.out; rw [bne_iff_ne]; omega
                have e3 : (nl == 3) = false := by have := HFS.out; rw [beq_eq_false_iff_ne]; omega
                clear HCNT HBAD HOKK HRX HRC hcn HFL
                have lt := (HS).out.res.lt
                have f0 := (HS).out.res.free 0
                have f1 := (HS).out.res.free 1
                have f2 := (HS).out.res.free 2
                have f3 := (HS).out.res.free 3
                have f4 := (HS).out.res.free 4
                have r0 := ((HS).out.res.cell 0).trans (show _ = some (Value.int .i64 0) from rfl)
                have r1 := ((HS).out.res.cell 1).trans (show _ = some (Value.int .i64 0) from rfl)
                have r2 := ((HS).out.res.cell 2).trans (show _ = some (Value.int .i64 0) from rfl)
                have r3 := ((HS).out.res.cell 3).trans (show _ = some (Value.int .u64 0) from rfl)
                have r4 := ((HS).out.res.cell 4).trans (show _ = some (Value.int .u64 0) from rfl)
                have HBR := Lib.hid (below_res5 (HS).out.bel N0 (.int .i64 0) (.int .i64 0) (.int .i64 0) (.int .u64 0) (.int .u64 0) (Nat.le_of_eq HN0.out))
                have HLR := Lib.hid ((((((HS).out.res.put 0 (.int .i64 0)).put 1 (.int .i64 0)).put 2 (.int .i64 0)).put 3 (.int .u64 0)).put 4 (.int .u64 0))
                have Q0 := Lib.hid ((HLR.out.cell 0).trans (show _ = some (Value.int .i64 (ev0).th) from rfl))
                have Q1 := Lib.hid ((HLR.out.cell 1).trans (show _ = some (Value.int .i64 (ev0).kd) from rfl))
                have Q2 := Lib.hid ((HLR.out.cell 2).trans (show _ = some (Value.int .i64 (ev0).rg) from rfl))
                have Q3 := Lib.hid ((HLR.out.cell 3).trans (show _ = some (Value.int .u64 ((ev0).tk : Int)) from rfl))
                have Q4 := Lib.hid ((HLR.out.cell 4).trans (show _ = some (Value.int .u64 ((ev0).vl : Int)) from rfl))
                go_wp2
                refine bodyPost_ret (v := .tuple #[.agg (evC ev0), .bool false]) (by simp [results, Tryd.results36, go_sem, Q0.out, Q1.out, Q2.out, Q3.out, Q4.out]) rfl ?_
                exact ⟨_, _, rfl, HLN.out, HBR.out⟩
              have e1 : ((nl : Int) == 3) = true := by have := HFS.out; rw [beq_iff_eq]; omega
              have e2 : ((nl : Int) != 3) = false := by have := HFS.out; rw [bne_eq_false_iff_eq]; omega
              have e3 : (nl == 3) = true := by have := HFS.out; rw [beq_iff_eq]; omega
              have hnl9 : (nl : Int) = 3 := by have := HFS.out; omega
              clear HCNT HRC
              obtain ⟨f0, rfl⟩ := one_of_length hcn
              have hl0 := HFL.out f0 (by simp)
              have z0 : ([f0] : List (List UInt8)).getD 0 [] = f0 := rfl
              rw [z0] at HRX
              clear hcn HFL z0 HFS
              have hn1 := rnE_lt f0
              go_wp2_with fail
              refine wp_loop_rounds 2 ?_
              rw [rounds_succ]
              have a2 := (HS).out.row 2 (.string (textB f0)) rfl
              have al := (HS).out.gl
              go_wp2_with fail
              refine (rfNum15 f0 _ hl0).mono ?_
              rintro e w' ⟨rfl, rfl⟩
              clear a2 al
              have f9 := (HS).out.evt.free 4
              have l9 := (HS).out.evt.lt
              have p9 := ((HS).out.evt.cell 4).trans (show _ = some ((Value.int .u64 0)) from rfl)
              have HS4 := Lib.hid (HS.out.put 4 (.int .u64 ((rnE f0 : Nat) : Int)) (x' := ⟨m0, (K : Int), 0, 0, rnE f0⟩) rfl)
              go_wp2_with fail
              clear f9 l9 p9 HS
              generalize World.setCell _ _ _ = wa at *
              rw [rounds_succ]
              obtain ⟨x9, hx9⟩ : ∃ x, rrX K w0 ([f0]) = x := ⟨_, rfl⟩
              have hxe := HRX.out
              rw [hx9] at hxe HBAD HOKK
              have hvl9 : x9.vl ≤ 18446744073709551615 := by rw [← hx9]; exact rrX_vl _ _ _
              have HT0 := (HS4).out
              rw [← hxe] at HT0
              have HT := Lib.hid HT0
              clear hxe HT0 HS4 HRX hx9
              have c0 := (HT.out.evt.cell 0).trans (show _ = some (Value.int .i64 x9.th) from rfl)
              have c1 := (HT.out.evt.cell 1).trans (show _ = some (Value.int .i64 x9.kd) from rfl)
              have c2 := (HT.out.evt.cell 2).trans (show _ = some (Value.int .i64 x9.rg) from rfl)
              have c3 := (HT.out.evt.cell 3).trans (show _ = some (Value.int .u64 (x9.tk : Int)) from rfl)
              have c4 := (HT.out.evt.cell 4).trans (show _ = some (Value.int .u64 (x9.vl : Int)) from rfl)
              have cl := HT.out.evt.lt
              go_wp2_with fail
              refine (rfRight15 x9 _).mono ?_
              rintro e wz ⟨rfl, hbz⟩
              have HU := Lib.hid (HT.out.below hbz)
              clear c0 c1 c2 c3 c4 cl HT hbz
              have HRP := Lib.hid (@right_parts x9)
              generalize rightE x9 = rr at *
              cases rr
              case false =>
                have HLN := Lib.hid (HBAD.out (.inl rfl))
                clear HBAD HOKK HRP
                have lt := (HU).out.res.lt
                have f0 := (HU).out.res.free 0
                have f1 := (HU).out.res.free 1
                have f2 := (HU).out.res.free 2
                have f3 := (HU).out.res.free 3
                have f4 := (HU).out.res.free 4
                have r0 := ((HU).out.res.cell 0).trans (show _ = some (Value.int .i64 0) from rfl)
                have r1 := ((HU).out.res.cell 1).trans (show _ = some (Value.int .i64 0) from rfl)
                have r2 := ((HU).out.res.cell 2).trans (show _ = some (Value.int .i64 0) from rfl)
                have r3 := ((HU).out.res.cell 3).trans (show _ = some (Value.int .u64 0) from rfl)
                have r4 := ((HU).out.res.cell 4).trans (show _ = some (Value.int .u64 0) from rfl)
                have HBR := Lib.hid (below_res5 (HU).out.bel N0 (.int .i64 0) (.int .i64 0) (.int .i64 0) (.int .u64 0) (.int .u64 0) (Nat.le_of_eq HN0.out))
                have HLR := Lib.hid ((((((HU).out.res.put 0 (.int .i64 0)).put 1 (.int .i64 0)).put 2 (.int .i64 0)).put 3 (.int .u64 0)).put 4 (.int .u64 0))
                have Q0 := Lib.hid ((HLR.out.cell 0).trans (show _ = some (Value.int .i64 (ev0).th) from rfl))
                have Q1 := Lib.hid ((HLR.out.cell 1).trans (show _ = some (Value.int .i64 (ev0).kd) from rfl))
                have Q2 := Lib.hid ((HLR.out.cell 2).trans (show _ = some (Value.int .i64 (ev0).rg) from rfl))
                have Q3 := Lib.hid ((HLR.out.cell 3).trans (show _ = some (Value.int .u64 ((ev0).tk : Int)) from rfl))
                have Q4 := Lib.hid ((HLR.out.cell 4).trans (show _ = some (Value.int .u64 ((ev0).vl : Int)) from rfl))
                go_wp2
                refine bodyPost_ret (v := .tuple #[.agg (evC ev0), .bool false]) (by simp [results, Tryd.results36, go_sem, Q0.out, Q1.out, Q2.out, Q3.out, Q4.out]) rfl ?_
                exact ⟨_, _, rfl, HLN.out, HBR.out⟩
              obtain ⟨k1, ⟨r1, r2, r3, r4, r5⟩, q1, q2, q3⟩ := HRP.out rfl
              clear q1 q2 q3
              have c0 := (HU.out.evt.cell 0).trans (show _ = some (Value.int .i64 x9.th) from rfl)
              have c1 := (HU.out.evt.cell 1).trans (show _ = some (Value.int .i64 x9.kd) from rfl)
              have c2 := (HU.out.evt.cell 2).trans (show _ = some (Value.int .i64 x9.rg) from rfl)
              have c3 := (HU.out.evt.cell 3).trans (show _ = some (Value.int .u64 (x9.tk : Int)) from rfl)
              have c4 := (HU.out.evt.cell 4).trans (show _ = some (Value.int .u64 (x9.vl : Int)) from rfl)
              have cl := HU.out.evt.lt
              
              go_wp2_with fail
              refine (rfLine15 x9 _ r1 (by omega) r3 (by omega) (by omega) hvl9).mono ?_
              rintro e wy ⟨rfl, hbz⟩
              have HV := Lib.hid (HU.out.below hbz)
              clear c0 c1 c2 c3 c4 cl HU hbz r1 r2 r3 r4 r5 k1 hvl9 HRP
              by_cases hle : lineE x9 = bs
              case neg =>
                have HLN := Lib.hid (HBAD.out (.inr hle))
                have hne : textB (lineE x9) ≠ textB bs := fun e => hle (by have := congrArg (fun s => s.data.toList) e; simpa [textB] using this)
                have e8 := text_ne hne
                clear HBAD HOKK hle hne
                have lt := (HV).out.res.lt
                have f0 := (HV).out.res.free 0
                have f1 := (HV).out.res.free 1
                have f2 := (HV).out.res.free 2
                have f3 := (HV).out.res.free 3
                have f4 := (HV).out.res.free 4
                have r0 := ((HV).out.res.cell 0).trans (show _ = some (Value.int .i64 0) from rfl)
                have r1 := ((HV).out.res.cell 1).trans (show _ = some (Value.int .i64 0) from rfl)
                have r2 := ((HV).out.res.cell 2).trans (show _ = some (Value.int .i64 0) from rfl)
                have r3 := ((HV).out.res.cell 3).trans (show _ = some (Value.int .u64 0) from rfl)
                have r4 := ((HV).out.res.cell 4).trans (show _ = some (Value.int .u64 0) from rfl)
                have HBR := Lib.hid (below_res5 (HV).out.bel N0 (.int .i64 0) (.int .i64 0) (.int .i64 0) (.int .u64 0) (.int .u64 0) (Nat.le_of_eq HN0.out))
                have HLR := Lib.hid ((((((HV).out.res.put 0 (.int .i64 0)).put 1 (.int .i64 0)).put 2 (.int .i64 0)).put 3 (.int .u64 0)).put 4 (.int .u64 0))
                have Q0 := Lib.hid ((HLR.out.cell 0).trans (show _ = some (Value.int .i64 (ev0).th) from rfl))
                have Q1 := Lib.hid ((HLR.out.cell 1).trans (show _ = some (Value.int .i64 (ev0).kd) from rfl))
                have Q2 := Lib.hid ((HLR.out.cell 2).trans (show _ = some (Value.int .i64 (ev0).rg) from rfl))
                have Q3 := Lib.hid ((HLR.out.cell 3).trans (show _ = some (Value.int .u64 ((ev0).tk : Int)) from rfl))
                have Q4 := Lib.hid ((HLR.out.cell 4).trans (show _ = some (Value.int .u64 ((ev0).vl : Int)) from rfl))
                go_wp2
                refine bodyPost_ret (v := .tuple #[.agg (evC ev0), .bool false]) (by simp [results, Tryd.results36, go_sem, Q0.out, Q1.out, Q2.out, Q3.out, Q4.out]) rfl ?_
                exact ⟨_, _, rfl, HLN.out, HBR.out⟩
              have HLN := Lib.hid (HOKK.out (by first | rfl | trivial) hle)
              rw [hle]
              clear HBAD HOKK hle
              have c0 := (HV.out.evt.cell 0).trans (show _ = some (Value.int .i64 x9.th) from rfl)
              have c1 := (HV.out.evt.cell 1).trans (show _ = some (Value.int .i64 x9.kd) from rfl)
              have c2 := (HV.out.evt.cell 2).trans (show _ = some (Value.int .i64 x9.rg) from rfl)
              have c3 := (HV.out.evt.cell 3).trans (show _ = some (Value.int .u64 (x9.tk : Int)) from rfl)
              have c4 := (HV.out.evt.cell 4).trans (show _ = some (Value.int .u64 (x9.vl : Int)) from rfl)
              have cl := HV.out.evt.lt
              have lt := (HV).out.res.lt
              have f0 := (HV).out.res.free 0
              have f1 := (HV).out.res.free 1
              have f2 := (HV).out.res.free 2
              have f3 := (HV).out.res.free 3
              have f4 := (HV).out.res.free 4
              have r0 := ((HV).out.res.cell 0).trans (show _ = some (Value.int .i64 0) from rfl)
              have r1 := ((HV).out.res.cell 1).trans (show _ = some (Value.int .i64 0) from rfl)
              have r2 := ((HV).out.res.cell 2).trans (show _ = some (Value.int .i64 0) from rfl)
              have r3 := ((HV).out.res.cell 3).trans (show _ = some (Value.int .u64 0) from rfl)
              have r4 := ((HV).out.res.cell 4).trans (show _ = some (Value.int .u64 0) from rfl)
              have HBR := Lib.hid (below_res5 HV.out.bel N0 (.int .i64 x9.th) (.int .i64 x9.kd) (.int .i64 x9.rg) (.int .u64 (x9.tk : Int)) (.int .u64 (x9.vl : Int)) (Nat.le_of_eq HN0.out))
              have HLR := Lib.hid (((((HV.out.res.put 0 (.int .i64 x9.th)).put 1 (.int .i64 x9.kd)).put 2 (.int .i64 x9.rg)).put 3 (.int .u64 (x9.tk : Int))).put 4 (.int .u64 (x9.vl : Int)))
              have Q0 := Lib.hid ((HLR.out.cell 0).trans (show _ = some (Value.int .i64 (x9).th) from rfl))
              have Q1 := Lib.hid ((HLR.out.cell 1).trans (show _ = some (Value.int .i64 (x9).kd) from rfl))
              have Q2 := Lib.hid ((HLR.out.cell 2).trans (show _ = some (Value.int .i64 (x9).rg) from rfl))
              have Q3 := Lib.hid ((HLR.out.cell 3).trans (show _ = some (Value.int .u64 ((x9).tk : Int)) from rfl))
              have Q4 := Lib.hid ((HLR.out.cell 4).trans (show _ = some (Value.int .u64 ((x9).vl : Int)) from rfl))
              go_wp2
              refine bodyPost_ret (v := .tuple #[.agg (evC x9), .bool true]) (by simp [results, Tryd.results36, go_sem, Q0.out, Q1.out, Q2.out, Q3.out, Q4.out]) rfl ?_
              exact ⟨_, _, rfl, HLN.out, HBR.out⟩
            · by_cases hcn : fs.length = 0
              case neg =>
                have HLN := Lib.hid (HCNT.out (by rw [HRC.out]; exact hcn))
                have e1 : ((nl : Int) == 2) = false := by have := HFS.out; rw [beq_eq_false_iff_ne]; omega
                have e2 : ((nl : Int) != 2) = true := by have := HFS.out; rw [bne_iff_ne]; omega
                have e3 : (nl == 2) = false := by have := HFS.out; rw [beq_eq_false_iff_ne]; omega
                clear HCNT HBAD HOKK HRX HRC hcn HFL
                have lt := (HS).out.res.lt
                have f0 := (HS).out.res.free 0
                have f1 := (HS).out.res.free 1
                have f2 := (HS).out.res.free 2
                have f3 := (HS).out.res.free 3
                have f4 := (HS).out.res.free 4
                have r0 := ((HS).out.res.cell 0).trans (show _ = some (Value.int .i64 0) from rfl)
                have r1 := ((HS).out.res.cell 1).trans (show _ = some (Value.int .i64 0) from rfl)
                have r2 := ((HS).out.res.cell 2).trans (show _ = some (Value.int .i64 0) from rfl)
                have r3 := ((HS).out.res.cell 3).trans (show _ = some (Value.int .u64 0) from rfl)
                have r4 := ((HS).out.res.cell 4).trans (show _ = some (Value.int .u64 0) from rfl)
                have HBR := Lib.hid (below_res5 (HS).out.bel N0 (.int .i64 0) (.int .i64 0) (.int .i64 0) (.int .u64 0) (.int .u64 0) (Nat.le_of_eq HN0.out))
                have HLR := Lib.hid ((((((HS).out.res.put 0 (.int .i64 0)).put 1 (.int .i64 0)).put 2 (.int .i64 0)).put 3 (.int .u64 0)).put 4 (.int .u64 0))
                have Q0 := Lib.hid ((HLR.out.cell 0).trans (show _ = some (Value.int .i64 (ev0).th) from rfl))
                have Q1 := Lib.hid ((HLR.out.cell 1).trans (show _ = some (Value.int .i64 (ev0).kd) from rfl))
                have Q2 := Lib.hid ((HLR.out.cell 2).trans (show _ = some (Value.int .i64 (ev0).rg) from rfl))
                have Q3 := Lib.hid ((HLR.out.cell 3).trans (show _ = some (Value.int .u64 ((ev0).tk : Int)) from rfl))
                have Q4 := Lib.hid ((HLR.out.cell 4).trans (show _ = some (Value.int .u64 ((ev0).vl : Int)) from rfl))
                go_wp2
                refine bodyPost_ret (v := .tuple #[.agg (evC ev0), .bool false]) (by simp [results, Tryd.results36, go_sem, Q0.out, Q1.out, Q2.out, Q3.out, Q4.out]) rfl ?_
                exact ⟨_, _, rfl, HLN.out, HBR.out⟩
              have e1 : ((nl : Int) == 2) = true := by have := HFS.out; rw [beq_iff_eq]; omega
              have e2 : ((nl : Int) != 2) = false := by have := HFS.out; rw [bne_eq_false_iff_eq]; omega
              have e3 : (nl == 2) = true := by have := HFS.out; rw [beq_iff_eq]; omega
              have hnl9 : (nl : Int) = 2 := by have := HFS.out; omega
              clear HCNT HRC
              clear hcn HFL HFS
              go_wp2_with fail
              refine wp_loop_rounds 1 ?_
              rw [rounds_succ]
              obtain ⟨x9, hx9⟩ : ∃ x, rrX K w0 fs = x := ⟨_, rfl⟩
              have hxe := HRX.out
              rw [hx9] at hxe HBAD HOKK
              have hvl9 : x9.vl ≤ 18446744073709551615 := by rw [← hx9]; exact rrX_vl _ _ _
              have HT0 := (HS).out
              rw [← hxe] at HT0
              have HT := Lib.hid HT0
              clear hxe HT0 HS HRX hx9
              have c0 := (HT.out.evt.cell 0).trans (show _ = some (Value.int .i64 x9.th) from rfl)
              have c1 := (HT.out.evt.cell 1).trans (show _ = some (Value.int .i64 x9.kd) from rfl)
              have c2 := (HT.out.evt.cell 2).trans (show _ = some (Value.int .i64 x9.rg) from rfl)
              have c3 := (HT.out.evt.cell 3).trans (show _ = some (Value.int .u64 (x9.tk : Int)) from rfl)
              have c4 := (HT.out.evt.cell 4).trans (show _ = some (Value.int .u64 (x9.vl : Int)) from rfl)
              have cl := HT.out.evt.lt
              go_wp2_with fail
              refine (rfRight15 x9 _).mono ?_
              rintro e wz ⟨rfl, hbz⟩
              have HU := Lib.hid (HT.out.below hbz)
              clear c0 c1 c2 c3 c4 cl HT hbz
              have HRP := Lib.hid (@right_parts x9)
              generalize rightE x9 = rr at *
              cases rr
              case false =>
                have HLN := Lib.hid (HBAD.out (.inl rfl))
                clear HBAD HOKK HRP
                have lt := (HU).out.res.lt
                have f0 := (HU).out.res.free 0
                have f1 := (HU).out.res.free 1
                have f2 := (HU).out.res.free 2
                have f3 := (HU).out.res.free 3
                have f4 := (HU).out.res.free 4
                have r0 := ((HU).out.res.cell 0).trans (show _ = some (Value.int .i64 0) from rfl)
                have r1 := ((HU).out.res.cell 1).trans (show _ = some (Value.int .i64 0) from rfl)
                have r2 := ((HU).out.res.cell 2).trans (show _ = some (Value.int .i64 0) from rfl)
                have r3 := ((HU).out.res.cell 3).trans (show _ = some (Value.int .u64 0) from rfl)
                have r4 := ((HU).out.res.cell 4).trans (show _ = some (Value.int .u64 0) from rfl)
                have HBR := Lib.hid (below_res5 (HU).out.bel N0 (.int .i64 0) (.int .i64 0) (.int .i64 0) (.int .u64 0) (.int .u64 0) (Nat.le_of_eq HN0.out))
                have HLR := Lib.hid ((((((HU).out.res.put 0 (.int .i64 0)).put 1 (.int .i64 0)).put 2 (.int .i64 0)).put 3 (.int .u64 0)).put 4 (.int .u64 0))
                have Q0 := Lib.hid ((HLR.out.cell 0).trans (show _ = some (Value.int .i64 (ev0).th) from rfl))
                have Q1 := Lib.hid ((HLR.out.cell 1).trans (show _ = some (Value.int .i64 (ev0).kd) from rfl))
                have Q2 := Lib.hid ((HLR.out.cell 2).trans (show _ = some (Value.int .i64 (ev0).rg) from rfl))
                have Q3 := Lib.hid ((HLR.out.cell 3).trans (show _ = some (Value.int .u64 ((ev0).tk : Int)) from rfl))
                have Q4 := Lib.hid ((HLR.out.cell 4).trans (show _ = some (Value.int .u64 ((ev0).vl : Int)) from rfl))
                go_wp2
                refine bodyPost_ret (v := .tuple #[.agg (evC ev0), .bool false]) (by simp [results, Tryd.results36, go_sem, Q0.out, Q1.out, Q2.out, Q3.out, Q4.out]) rfl ?_
                exact ⟨_, _, rfl, HLN.out, HBR.out⟩
              obtain ⟨k1, ⟨r1, r2, r3, r4, r5⟩, q1, q2, q3⟩ := HRP.out rfl
              clear q1 q2 q3
              have c0 := (HU.out.evt.cell 0).trans (show _ = some (Value.int .i64 x9.th) from rfl)
              have c1 := (HU.out.evt.cell 1).trans (show _ = some (Value.int .i64 x9.kd) from rfl)
              have c2 := (HU.out.evt.cell 2).trans (show _ = some (Value.int .i64 x9.rg) from rfl)
              have c3 := (HU.out.evt.cell 3).trans (show _ = some (Value.int .u64 (x9.tk : Int)) from rfl)
              have c4 := (HU.out.evt.cell 4).trans (show _ = some (Value.int .u64 (x9.vl : Int)) from rfl)
              have cl := HU.out.evt.lt
              
              go_wp2_with fail
              refine (rfLine15 x9 _ r1 (by omega) r3 (by omega) (by omega) hvl9).mono ?_
              rintro e wy ⟨rfl, hbz⟩
              have HV := Lib.hid (HU.out.below hbz)
              clear c0 c1 c2 c3 c4 cl HU hbz r1 r2 r3 r4 r5 k1 hvl9 HRP
              by_cases hle : lineE x9 = bs
              case neg =>
                have HLN := Lib.hid (HBAD.out (.inr hle))
                have hne : textB (lineE x9) ≠ textB bs := fun e => hle (by have := congrArg (fun s => s.data.toList) e; simpa [textB] using this)
                have e8 := text_ne hne
                clear HBAD HOKK hle hne
                have lt := (HV).out.res.lt
                have f0 := (HV).out.res.free 0
                have f1 := (HV).out.res.free 1
                have f2 := (HV).out.res.free 2
                have f3 := (HV).out.res.free 3
                have f4 := (HV).out.res.free 4
                have r0 := ((HV).out.res.cell 0).trans (show _ = some (Value.int .i64 0) from rfl)
                have r1 := ((HV).out.res.cell 1).trans (show _ = some (Value.int .i64 0) from rfl)
                have r2 := ((HV).out.res.cell 2).trans (show _ = some (Value.int .i64 0) from rfl)
                have r3 := ((HV).out.res.cell 3).trans (show _ = some (Value.int .u64 0) from rfl)
                have r4 := ((HV).out.res.cell 4).trans (show _ = some (Value.int .u64 0) from rfl)
                have HBR := Lib.hid (below_res5 (HV).out.bel N0 (.int .i64 0) (.int .i64 0) (.int .i64 0) (.int .u64 0) (.int .u64 0) (Nat.le_of_eq HN0.out))
                have HLR := Lib.hid ((((((HV).out.res.put 0 (.int .i64 0)).put 1 (.int .i64 0)).put 2 (.int .i64 0)).put 3 (.int .u64 0)).put 4 (.int .u64 0))
                have Q0 := Lib.hid ((HLR.out.cell 0).trans (show _ = some (Value.int .i64 (ev0).th) from rfl))
                have Q1 := Lib.hid ((HLR.out.cell 1).trans (show _ = some (Value.int .i64 (ev0).kd) from rfl))
                have Q2 := Lib.hid ((HLR.out.cell 2).trans (show _ = some (Value.int .i64 (ev0).rg) from rfl))
                have Q3 := Lib.hid ((HLR.out.cell 3).trans (show _ = some (Value.int .u64 ((ev0).tk : Int)) from rfl))
                have Q4 := Lib.hid ((HLR.out.cell 4).trans (show _ = some (Value.int .u64 ((ev0).vl : Int)) from rfl))
                go_wp2
                refine bodyPost_ret (v := .tuple #[.agg (evC ev0), .bool false]) (by simp [results, Tryd.results36, go_sem, Q0.out, Q1.out, Q2.out, Q3.out, Q4.out]) rfl ?_
                exact ⟨_, _, rfl, HLN.out, HBR.out⟩
              have HLN := Lib.hid (HOKK.out (by first | rfl | trivial) hle)
              rw [hle]
              clear HBAD HOKK hle
              have c0 := (HV.out.evt.cell 0).trans (show _ = some (Value.int .i64 x9.th) from rfl)
              have c1 := (HV.out.evt.cell 1).trans (show _ = some (Value.int .i64 x9.kd) from rfl)
              have c2 := (HV.out.evt.cell 2).trans (show _ = some (Value.int .i64 x9.rg) from rfl)
              have c3 := (HV.out.evt.cell 3).trans (show _ = some (Value.int .u64 (x9.tk : Int)) from rfl)
              have c4 := (HV.out.evt.cell 4).trans (show _ = some (Value.int .u64 (x9.vl : Int)) from rfl)
              have cl := HV.out.evt.lt
              have lt := (HV).out.res.lt
              have f0 := (HV).out.res.free 0
              have f1 := (HV).out.res.free 1
              have f2 := (HV).out.res.free 2
              have f3 := (HV).out.res.free 3
              have f4 := (HV).out.res.free 4
              have r0 := ((HV).out.res.cell 0).trans (show _ = some (Value.int .i64 0) from rfl)
              have r1 := ((HV).out.res.cell 1).trans (show _ = some (Value.int .i64 0) from rfl)
              have r2 := ((HV).out.res.cell 2).trans (show _ = some (Value.int .i64 0) from rfl)
              have r3 := ((HV).out.res.cell 3).trans (show _ = some (Value.int .u64 0) from rfl)
              have r4 := ((HV).out.res.cell 4).trans (show _ = some (Value.int .u64 0) from rfl)
              have HBR := Lib.hid (below_res5 HV.out.bel N0 (.int .i64 x9.th) (.int .i64 x9.kd) (.int .i64 x9.rg) (.int .u64 (x9.tk : Int)) (.int .u64 (x9.vl : Int)) (Nat.le_of_eq HN0.out))
              have HLR := Lib.hid (((((HV.out.res.put 0 (.int .i64 x9.th)).put 1 (.int .i64 x9.kd)).put 2 (.int .i64 x9.rg)).put 3 (.int .u64 (x9.tk : Int))).put 4 (.int .u64 (x9.vl : Int)))
              have Q0 := Lib.hid ((HLR.out.cell 0).trans (show _ = some (Value.int .i64 (x9).th) from rfl))
              have Q1 := Lib.hid ((HLR.out.cell 1).trans (show _ = some (Value.int .i64 (x9).kd) from rfl))
              have Q2 := Lib.hid ((HLR.out.cell 2).trans (show _ = some (Value.int .i64 (x9).rg) from rfl))
              have Q3 := Lib.hid ((HLR.out.cell 3).trans (show _ = some (Value.int .u64 ((x9).tk : Int)) from rfl))
              have Q4 := Lib.hid ((HLR.out.cell 4).trans (show _ = some (Value.int .u64 ((x9).vl : Int)) from rfl))
              go_wp2
              refine bodyPost_ret (v := .tuple #[.agg (evC x9), .bool true]) (by simp [results, Tryd.results36, go_sem, Q0.out, Q1.out, Q2.out, Q3.out, Q4.out]) rfl ?_
              exact ⟨_, _, rfl, HLN.out, HBR.out⟩
end Go.Proofs.YtndcnflboikodaaDoor
