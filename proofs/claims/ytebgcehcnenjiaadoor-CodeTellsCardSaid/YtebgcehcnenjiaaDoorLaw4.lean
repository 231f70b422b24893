/-
  CodeTells: its walk.
-/
import Derived.Test.YtebgcehcnenjiaaDoorLaw1
import Derived.Deep.DeepCutAuto
namespace Go.Proofs.YtebgcehcnenjiaaDoor
open Go.RowKit
set_option linter.unusedVariables false
set_option linter.unusedSimpArgs false
theorem not_wanted {c : Bool} {p q : Prop} (h : c = false) (hq : q) : if c = true then p else q := by rw [h]; exact hq
theorem nm_pos : ∀ i, i < 26 → 1 ≤ i → nmL.getD i ByteArray.empty ≠ ByteArray.empty := by decide +kernel
theorem nm_find : ∀ i, i < 26 → 1 ≤ i → fdN (nmL.getD i ByteArray.empty) = i := by decide +kernel
theorem tells1 (s : ByteArray) : fdN s = 0 ∨ (1 ≤ fdN s ∧ fdN s ≤ 25 ∧ nmB (fdN s : Nat) = s ∧ s ≠ ByteArray.empty) := by
  unfold fdN
  cases h : (List.range' 1 25).find? (fun k => decide (nmL.getD k ByteArray.empty = s)) with
  | none => exact .inl rfl
  | some i =>
    right
    have h1 := List.mem_of_find?_eq_some h
    have h2 := List.find?_some (p := fun k => decide (nmL.getD k ByteArray.empty = s)) h
    have h2 := of_decide_eq_true h2
    rw [List.mem_range'] at h1
    obtain ⟨k, hk, rfl⟩ := h1
    refine ⟨by simp only [Option.getD_some]; omega, by simp only [Option.getD_some]; omega, ?_, ?_⟩
    · simp only [Option.getD_some]
      unfold nmB
      rw [show opB ((1 + 1 * k : Nat) : Int) = true from decide_eq_true (by omega), if_pos rfl, Int.toNat_natCast]
      exact h2
    · rw [← h2]
      exact nm_pos _ (by omega) (by omega)
theorem tells2 {op : Int} (h : opB op = true) : (fdN (nmB op) : Int) = op ∧ nmB op ≠ ByteArray.empty := by
  have h1 := of_decide_eq_true h
  unfold nmB
  rw [h, if_pos rfl]
  exact ⟨by rw [nm_find _ (by omega) (by omega)]; omega, nm_pos _ (by omega) (by omega)⟩
theorem tells3 {op : Int} (h : opB op = false) : nmB op = ⟨#[]⟩ := by
  unfold nmB
  rw [h]; rfl
theorem cons_of {s : ByteArray} (h : s ≠ ByteArray.empty) : ∃ b r, s.toList = b :: r := by
  cases hl : s.toList with
  | nil =>
    exfalso
    apply h
    rw [ByteArray.toList_eq] at hl
    exact eq_of_data hl
  | cons b r => exact ⟨b, r, rfl⟩
def tlV (bx : Nat) (s : ByteArray) (x : In) (P1 P17 Q18 Q25 rb : Bool) : Nat → Value → World → Prop
  | 0, v, _ => v = .pointer (some ⟨bx, 0, none⟩)
  | 1, v, _ => v = .int .i64 x.op
  | 2, v, _ => v = .string s
  | 3, v, _ => v = .string s
  | 4, v, _ => v = .bool true
  | 5, v, _ => v = .bool true
  | 6, v, _ => v = .pointer (some ⟨bx, 0, none⟩)
  | 7, v, _ => v = .int .i64 x.op
  | 8, v, _ => v = .bool (P1 && P17)
  | 9, v, _ => v = .pointer (some ⟨bx, 0, none⟩)
  | 10, v, _ => v = .int .i64 x.op
  | 11, v, _ => v = .bool P1
  | 12, v, _ => v = .bool P1
  | 13, v, _ => v = cond P1 (.pointer (some ⟨bx, 0, none⟩)) undef
  | 14, v, _ => v = cond P1 (.int .i64 x.op) undef
  | 15, v, _ => v = cond P1 (.bool P17) undef
  | 16, v, _ => v = .bool (P1 && P17)
  | 17, v, _ => v = .bool true
  | 18, v, _ => v = .bool true
  | 19, v, _ => v = .bool true
  | 20, v, _ => v = .pointer (some ⟨bx, 0, none⟩)
  | 21, v, _ => v = .int .i64 x.op
  | 22, v, _ => v = .bool (Q18 && Q25)
  | 23, v, _ => v = .pointer (some ⟨bx, 0, none⟩)
  | 24, v, _ => v = .int .i64 x.op
  | 25, v, _ => v = .bool Q18
  | 26, v, _ => v = .bool Q18
  | 27, v, _ => v = cond Q18 (.pointer (some ⟨bx, 0, none⟩)) undef
  | 28, v, _ => v = cond Q18 (.int .i64 x.op) undef
  | 29, v, _ => v = cond Q18 (.bool Q25) undef
  | 30, v, _ => v = .bool (Q18 && Q25)
  | 31, v, _ => v = .bool true
  | 32, v, _ => v = .bool true
  | 33, v, _ => v = .bool true
  | 34, v, _ => v = .agg (inC x)
  | 35, v, _ => v = .bool rb
  | 36, v, _ => v = .agg (inC x)
  | 37, v, _ => v = .bool rb
  | 38, v, _ => v = .bool true
  | 39, v, _ => v = .bool true
  | 40, v, _ => v = .bool true
  | _, _, _ => True
theorem tlV_all {bx : Nat} {s : ByteArray} {x : In} {P1 P17 Q18 Q25 rb : Bool} {w w' : World} {j : Nat} {u : Value} (h : tlV bx s x P1 P17 Q18 Q25 rb j u w) : tlV bx s x P1 P17 Q18 Q25 rb j u w' := by
  match j with
  | 0 => exact h
  | 1 => exact h
  | 2 => exact h
  | 3 => exact h
  | 4 => exact h
  | 5 => exact h
  | 6 => exact h
  | 7 => exact h
  | 8 => exact h
  | 9 => exact h
  | 10 => exact h
  | 11 => exact h
  | 12 => exact h
  | 13 => exact h
  | 14 => exact h
  | 15 => exact h
  | 16 => exact h
  | 17 => exact h
  | 18 => exact h
  | 19 => exact h
  | 20 => exact h
  | 21 => exact h
  | 22 => exact h
  | 23 => exact h
  | 24 => exact h
  | 25 => exact h
  | 26 => exact h
  | 27 => exact h
  | 28 => exact h
  | 29 => exact h
  | 30 => exact h
  | 31 => exact h
  | 32 => exact h
  | 33 => exact h
  | 34 => exact h
  | 35 => exact h
  | 36 => exact h
  | 37 => exact h
  | 38 => exact h
  | 39 => exact h
  | 40 => exact h
  | _ + 41 => trivial
set_option maxHeartbeats 16000000 in
set_option maxRecDepth 100000 in
theorem tells_walk (z : In) (name : ByteArray) (W : World) (h : inOk z) (hs : name.size ≤ maxLen) (hN : NamesAt W) :
    Calls Tryd.prog 3 #[.agg (inC z), .string name] W fun e w' => e = .returned (.bool true) ∧ Below W.heap.size W w' := by
  unfold maxLen at hs
  have hb0 : Below W.heap.size W (W.alloc (.cells (inC z) 24)) := (Below.refl _ _).alloc (Nat.le_refl _) _
  have l0 := Lies.made W 24 (inC z)
  have HN := Lib.hid hN
  have hgl := hN.lt
  have HB := Lib.hid hb0
  have HL := Lib.hid l0
  have HX := Lib.hid h
  clear hb0 l0 hN h
  go_enter Tryd.func3, Tryd.ntmps3
  go_wp2_with fail
  generalize W.alloc (.cells (inC z) 24) = w1 at *
  refine (awake_any _ (HN.out.later HB.out hgl)).mono ?_
  rintro e w2 ⟨rfl, hbm⟩
  replace HB := Lib.hid (HB.out.trans (hbm.mono HB.out.size))
  replace HL := Lib.hid (HL.out.below hbm HL.out.lt)
  clear hbm
  by_cases hlen : 50 < name.size
  · have e1 : decide (50 < name.size) = true := decide_eq_true hlen
    have e2 : decide ((50 : Int) < (name.size : Int)) = true := decide_eq_true (by omega)
    go_wp2_with fail
    refine (awake_any _ (HN.out.later HB.out hgl)).mono ?_
    rintro e wz ⟨rfl, hbz⟩
    have hbz := HB.out.trans (hbz.mono HB.out.size)
    go_wp2
    go_ret
    exact ⟨rfl, hbz⟩
  have e1 : decide (50 < name.size) = false := decide_eq_false hlen
  have e2 : decide ((50 : Int) < (name.size : Int)) = false := decide_eq_false (by omega)
  have c0 := (HL.out.cell 0).trans (show _ = some (Value.int .i64 z.op) from rfl)
  have cl := HL.out.lt
  go_wp2_with fail
  refine (rfName z.op _).mono ?_
  rintro e w3 ⟨rfl, hbm⟩
  replace HB := Lib.hid (HB.out.trans (hbm.mono HB.out.size))
  replace HL := Lib.hid (HL.out.below hbm HL.out.lt)
  clear hbm e1 e2 hlen c0 cl
  go_wp2_with fail
  refine (find_any name _ (HN.out.later HB.out hgl)).mono ?_
  rintro e w4 ⟨rfl, rfl⟩
  go_wp2_with fail
  refine (find_any (nmB z.op) _ (HN.out.later HB.out hgl)).mono ?_
  rintro e w4 ⟨rfl, rfl⟩
  go_upto_region 6 with (fail)
  obtain ⟨okn, hokn⟩ : ∃ b, (fdN name != 0) = b := ⟨_, rfl⟩
  obtain ⟨oks, hoks⟩ : ∃ b, (fdN (nmB z.op) != 0) = b := ⟨_, rfl⟩
  rw [hokn, hoks]
  have HOKN := Lib.hid hokn
  have HOKS := Lib.hid hoks
  clear hokn hoks
  go_cut [62] (fun s62 wx => s62 = .bool false ∧ Below w3.heap.size w3 wx)
  case first =>
    have c0 := (HL.out.cell 0).trans (show _ = some (Value.int .i64 z.op) from rfl)
    have cl := HL.out.lt
    have hz : (opB z.op = true ∧ ((fdN (nmB z.op) : Int) = z.op ∧ nmB z.op ≠ ByteArray.empty)) ∨ (opB z.op = false ∧ nmB z.op = ⟨#[]⟩) := by
      cases ho : opB z.op with
      | true => exact .inl ⟨rfl, tells2 ho⟩
      | false => exact .inr ⟨rfl, tells3 ho⟩
    have hz2 : (∃ b r, (nmB z.op).toList = b :: r ∧ (fdN (nmB z.op) : Int) = z.op ∧ 1 ≤ z.op) ∨ nmB z.op = ⟨#[]⟩ := by
      rcases hz with ⟨ho, h1, h2⟩ | ⟨_, h1⟩
      · obtain ⟨b, r, hb⟩ := cons_of h2
        exact .inl ⟨b, r, hb, h1, (of_decide_eq_true ho).1⟩
      · exact .inr h1
    clear hz
    generalize nmB z.op = so at *
    have HRN := Lib.hid (fun (i : Nat) w => rfName (i : Int) w)
    have ht := tells1 name
    have h0 : nmB ((0 : Nat) : Int) = ⟨#[]⟩ := by decide +kernel
    have H0 := Lib.hid h0
    clear h0
    have hne : fdN name = 0 → (name = ⟨#[]⟩ ∨ ∃ b r, name.toList = b :: r) := fun _ => by
      by_cases hn : name = ByteArray.empty
      · exact .inl hn
      · exact .inr (cons_of hn)
    have hcase : (∃ b r, name.toList = b :: r ∧ 1 ≤ fdN name ∧ nmB (fdN name : Nat) = name) ∨ (fdN name = 0 ∧ name = ⟨#[]⟩) ∨ (fdN name = 0 ∧ ∃ b r, name.toList = b :: r) := by
      rcases ht with ht | ⟨h1, _, h2, h3⟩
      · rcases hne ht with h | h
        · exact .inr (.inl ⟨ht, h⟩)
        · exact .inr (.inr ⟨ht, h⟩)
      · obtain ⟨b, r, hb⟩ := cons_of h3
        exact .inl ⟨b, r, hb, h1, h2⟩
    clear ht hne
    generalize fdN name = fn at *
    generalize hfo : fdN so = fo at *
    clear hfo
    have HZ := Lib.hid hz2
    clear hz2
    have hn1 := HOKN.out
    have hs1 := HOKS.out
    clear HOKN HOKS
    rcases hcase with ⟨b, r, hb, h1, h2⟩ | ⟨rfl, rfl⟩ | ⟨rfl, b, r, hb⟩
    · have H2 := Lib.hid h2
      obtain rfl : okn = true := by rw [← hn1, bne_iff_ne]; omega
      clear h2 h1 hn1
      have HS1 := Lib.hid hs1
      clear hs1
      go_wp2_with fail
      refine (HRN.out fn _).mono ?_
      rw [H2.out]
      rintro e w5 ⟨rfl, hbm⟩
      have HBM := Lib.hid hbm
      have c0 := ((HL.out.below hbm HL.out.lt).cell 0).trans (show _ = some (Value.int .i64 z.op) from rfl)
      have cl := (HL.out.below hbm HL.out.lt).lt
      clear hbm H2
      rcases HZ.out with ⟨b2, r2, hb2, g1, g2⟩ | hz
      · clear HZ
        obtain rfl : oks = true := by rw [← HS1.out, bne_iff_ne]; omega
        clear HS1
        have g5 : ((fo : Int) != z.op) = false := by rw [bne_eq_false_iff_eq]; exact g1
        clear g1 g2
        go_wp2
        go_meet
        exact ⟨rfl, HBM.out⟩
      · clear HZ
        subst hz
        go_wp2
        go_meet
        exact ⟨rfl, HBM.out⟩
    · obtain rfl : okn = false := hn1.symm
      clear hn1
      have HS1 := Lib.hid hs1
      clear hs1
      rcases HZ.out with ⟨b2, r2, hb2, g1, g2⟩ | hz
      · clear HZ
        obtain rfl : oks = true := by rw [← HS1.out, bne_iff_ne]; omega
        clear HS1
        have g5 : ((fo : Int) != z.op) = false := by rw [bne_eq_false_iff_eq]; exact g1
        clear g1 g2
        go_wp2
        go_meet
        exact ⟨rfl, Below.refl _ _⟩
      · clear HZ
        subst hz
        go_wp2
        go_meet
        exact ⟨rfl, Below.refl _ _⟩
    · obtain rfl : okn = false := hn1.symm
      clear hn1
      have HS1 := Lib.hid hs1
      clear hs1
      have HRZ := Lib.hid (HRN.out 0 w3)
      rw [H0.out] at HRZ
      go_wp2_with fail
      refine HRZ.out.mono ?_
      rintro e w5 ⟨rfl, hbm⟩
      have HBM := Lib.hid hbm
      have c0 := ((HL.out.below hbm HL.out.lt).cell 0).trans (show _ = some (Value.int .i64 z.op) from rfl)
      have cl := (HL.out.below hbm HL.out.lt).lt
      clear hbm HRZ
      rcases HZ.out with ⟨b2, r2, hb2, g1, g2⟩ | hz
      · clear HZ
        obtain rfl : oks = true := by rw [← HS1.out, bne_iff_ne]; omega
        clear HS1
        have g5 : ((fo : Int) != z.op) = false := by rw [bne_eq_false_iff_eq]; exact g1
        clear g1 g2
        go_wp2
        go_meet
        exact ⟨rfl, HBM.out⟩
      · clear HZ
        subst hz
        go_wp2
        go_meet
        exact ⟨rfl, HBM.out⟩
  case rest =>
    obtain ⟨rfl, hbm⟩ := hcut
    replace HB := Lib.hid (HB.out.trans (hbm.mono HB.out.size))
    replace HL := Lib.hid (HL.out.below hbm HL.out.lt)
    clear hbm
    have hor : (1 ≤ z.op ∨ ¬ 18 ≤ z.op) := by omega
    obtain ⟨P1, hP1⟩ : ∃ a, decide (1 ≤ z.op) = a := ⟨_, rfl⟩
    obtain ⟨P17, hP17⟩ : ∃ a, decide (z.op ≤ 17) = a := ⟨_, rfl⟩
    obtain ⟨Q18, hQ18⟩ : ∃ a, decide (18 ≤ z.op) = a := ⟨_, rfl⟩
    obtain ⟨Q25, hQ25⟩ : ∃ a, decide (z.op ≤ 25) = a := ⟨_, rfl⟩
    have HPL := Lib.hid (fun w => plain_any z.op w)
    have HSE := Lib.hid (fun w => seen_any z.op w)
    rw [hP1, hP17] at HPL
    rw [hQ18, hQ25] at HSE
    have HRI := Lib.hid (fun w => right_any z w)
    have HRR := Lib.hid (fun w => rfRight z w HX.out)
    generalize rightB z = rb at *
    cases P1
    case false =>
      cases Q18
      case false =>
        go_wp2_with fail
        refine wp_region_rely (fun q => Below wc.heap.size wc q) (tlV W.heap.size (nmB z.op) z false P17 false Q25 rb) [some 63, some 64, some 65, some 66, some 67, some 68, some 69, some 70, some 71, some 72, some 73, some 74, some 75, some 76, some 77, some 78, some 79, some 80, some 81, some 82, some 83, some 84, some 85, some 86, some 87, some 88, some 89, some 90, some 91, some 92, some 93, some 94, some 95, some 96, some 97, some 98, some 99, some 100, some 101, some 102, some 4] [[], [0], [1], [], [2, 3], [4], [5], [6, 5], [7, 5], [5], [9, 5], [10, 5], [11, 5], [12], [13, 12], [14, 12], [12, 15, 5], [8, 16, 5], [5, 17], [18], [19], [20, 19], [21, 19], [19], [23, 19], [24, 19], [25, 19], [26], [27, 26], [28, 26], [26, 29, 19], [22, 30, 19], [19, 31], [32], [33], [34, 33], [33], [36, 33], [35, 37, 33], [33, 38], [39]] [[], [0], [0, 1], [], [1, 2, 3], [1, 2, 3, 4], [4], [4, 6], [4, 6, 7], [4], [4, 9], [4, 9, 10], [4, 7, 10, 11], [11], [11, 13], [11, 13, 14], [4, 11, 14, 15], [4, 7, 8, 15, 16], [4, 8, 16, 17], [11, 17, 18], [18], [18, 20], [18, 20, 21], [18], [18, 23], [18, 23, 24], [18, 21, 24, 25], [25], [25, 27], [25, 27, 28], [18, 25, 28, 29], [18, 21, 22, 29, 30], [18, 22, 30, 31], [25, 31, 32], [32], [32, 34], [32], [32, 34, 36], [32, 34, 35, 36, 37], [32, 35, 37, 38], [0, 1, 2, 3, 4, 5, 6, 7, 8, 9, 10, 11, 12, 13, 14, 15, 16, 17, 18, 19, 20, 21, 22, 23, 24, 25, 26, 27, 28, 29, 30, 31, 32, 33, 34, 35, 36, 37, 38, 39]] [[2, 3, 4, 5, 6, 7, 8, 9, 10, 11, 12, 13, 14, 15, 16, 17, 18, 19, 20, 21, 22, 23, 24, 25, 26, 27, 28, 29, 30, 31, 32, 33, 34, 35, 36, 37, 38, 39], [3, 4, 5, 6, 7, 8, 9, 10, 11, 12, 13, 14, 15, 16, 17, 18, 19, 20, 21, 22, 23, 24, 25, 26, 27, 28, 29, 30, 31, 32, 33, 34, 35, 36, 37, 38, 39], [3, 6, 7, 8, 9, 10, 11, 12, 13, 14, 15, 16, 17, 18, 19, 20, 21, 22, 23, 24, 25, 26, 27, 28, 29, 30, 31, 32, 33, 34, 35, 36, 37, 38, 39], [0, 1, 2, 5, 6, 7, 8, 9, 10, 11, 12, 13, 14, 15, 16, 17, 18, 19, 20, 21, 22, 23, 24, 25, 26, 27, 28, 29, 30, 31, 32, 33, 34, 35, 36, 37, 38, 39], [6, 7, 8, 9, 10, 11, 12, 13, 14, 15, 16, 17, 18, 19, 20, 21, 22, 23, 24, 25, 26, 27, 28, 29, 30, 31, 32, 33, 34, 35, 36, 37, 38, 39], [13, 14, 15, 19, 20, 21, 22, 23, 24, 25, 26, 27, 28, 29, 30, 31, 32, 33, 34, 35, 36, 37, 38, 39], [0, 5, 8, 9, 10, 11, 12, 13, 14, 15, 16, 17, 18, 19, 20, 21, 22, 23, 24, 25, 26, 27, 28, 29, 30, 31, 32, 33, 34, 35, 36, 37, 38, 39], [0, 5, 9, 10, 11, 12, 13, 14, 15, 16, 17, 18, 19, 20, 21, 22, 23, 24, 25, 26, 27, 28, 29, 30, 31, 32, 33, 34, 35, 36, 37, 38, 39], [0, 5, 9, 10, 11, 13, 14, 15, 16, 18, 19, 20, 21, 22, 23, 24, 25, 26, 27, 28, 29, 30, 31, 32, 33, 34, 35, 36, 37, 38, 39], [0, 5, 6, 7, 8, 11, 12, 13, 14, 15, 16, 17, 18, 19, 20, 21, 22, 23, 24, 25, 26, 27, 28, 29, 30, 31, 32, 33, 34, 35, 36, 37, 38, 39], [0, 5, 6, 7, 8, 12, 13, 14, 15, 16, 17, 18, 19, 20, 21, 22, 23, 24, 25, 26, 27, 28, 29, 30, 31, 32, 33, 34, 35, 36, 37, 38, 39], [0, 5, 6, 7, 8, 13, 14, 15, 16, 17, 18, 19, 20, 21, 22, 23, 24, 25, 26, 27, 28, 29, 30, 31, 32, 33, 34, 35, 36, 37, 38, 39], [0, 5, 8, 17, 18, 20, 21, 22, 23, 24, 25, 26, 27, 28, 29, 30, 31, 32, 33, 34, 35, 36, 37, 38, 39], [0, 1, 2, 3, 5, 6, 8, 9, 12, 15, 16, 17, 18, 19, 20, 21, 22, 23, 24, 25, 26, 27, 28, 29, 30, 31, 32, 33, 34, 35, 36, 37, 38, 39], [0, 1, 2, 3, 5, 6, 8, 9, 12, 16, 17, 18, 19, 20, 21, 22, 23, 24, 25, 26, 27, 28, 29, 30, 31, 32, 33, 34, 35, 36, 37, 38, 39], [0, 1, 2, 3, 5, 6, 8, 9, 12, 17, 18, 19, 20, 21, 22, 23, 24, 25, 26, 27, 28, 29, 30, 31, 32, 33, 34, 35, 36, 37, 38, 39], [0, 5, 6, 8, 9, 12, 18, 19, 20, 21, 22, 23, 24, 25, 26, 27, 28, 29, 30, 31, 32, 33, 34, 35, 36, 37, 38, 39], [0, 5, 9, 10, 12, 13, 19, 20, 21, 22, 23, 24, 25, 26, 27, 28, 29, 30, 31, 32, 33, 34, 35, 36, 37, 38, 39], [0, 5, 6, 9, 10, 11, 12, 13, 14, 20, 21, 22, 23, 24, 25, 26, 27, 28, 29, 30, 31, 32, 33, 34, 35, 36, 37, 38, 39], [0, 1, 2, 3, 5, 6, 9, 12, 13, 14, 15, 27, 28, 29, 33, 34, 35, 36, 37, 38, 39], [0, 1, 2, 3, 4, 5, 6, 7, 8, 9, 10, 12, 13, 14, 15, 16, 19, 22, 23, 24, 25, 26, 27, 28, 29, 30, 31, 32, 33, 34, 35, 36, 37, 38, 39], [0, 1, 2, 3, 4, 5, 6, 7, 8, 9, 10, 12, 13, 14, 15, 16, 19, 23, 24, 25, 26, 27, 28, 29, 30, 31, 32, 33, 34, 35, 36, 37, 38, 39], [0, 1, 2, 3, 4, 5, 6, 7, 8, 9, 10, 12, 13, 14, 15, 16, 19, 23, 24, 25, 27, 28, 29, 30, 32, 33, 34, 35, 36, 37, 38, 39], [0, 1, 2, 3, 4, 5, 6, 7, 8, 9, 10, 12, 13, 14, 15, 16, 19, 20, 21, 22, 25, 26, 27, 28, 29, 30, 31, 32, 33, 34, 35, 36, 37, 38, 39], [0, 1, 2, 3, 4, 5, 6, 7, 8, 9, 10, 12, 13, 14, 15, 16, 19, 20, 21, 22, 26, 27, 28, 29, 30, 31, 32, 33, 34, 35, 36, 37, 38, 39], [0, 1, 2, 3, 4, 5, 6, 7, 8, 9, 10, 12, 13, 14, 15, 16, 19, 20, 21, 22, 27, 28, 29, 30, 31, 32, 33, 34, 35, 36, 37, 38, 39], [0, 1, 2, 3, 4, 5, 6, 7, 8, 9, 10, 12, 13, 14, 15, 16, 19, 22, 31, 32, 34, 35, 36, 37, 38, 39], [0, 1, 2, 3, 4, 5, 6, 7, 8, 9, 10, 11, 12, 13, 14, 15, 16, 17, 19, 20, 22, 23, 26, 29, 30, 31, 32, 33, 34, 35, 36, 37, 38, 39], [0, 1, 2, 3, 4, 5, 6, 7, 8, 9, 10, 11, 12, 13, 14, 15, 16, 17, 19, 20, 22, 23, 26, 30, 31, 32, 33, 34, 35, 36, 37, 38, 39], [0, 1, 2, 3, 4, 5, 6, 7, 8, 9, 10, 11, 12, 13, 14, 15, 16, 17, 19, 20, 22, 23, 26, 31, 32, 33, 34, 35, 36, 37, 38, 39], [0, 1, 2, 3, 4, 5, 6, 7, 8, 9, 10, 12, 13, 14, 15, 16, 19, 20, 22, 23, 26, 32, 33, 34, 35, 36, 37, 38, 39], [0, 1, 2, 3, 4, 5, 6, 7, 8, 9, 10, 12, 13, 14, 15, 16, 19, 23, 24, 26, 27, 33, 34, 35, 36, 37, 38, 39], [0, 1, 2, 3, 4, 5, 6, 7, 8, 9, 10, 12, 13, 14, 15, 16, 19, 20, 23, 24, 25, 26, 27, 28, 34, 35, 36, 37, 38, 39], [0, 1, 2, 3, 4, 5, 6, 7, 8, 9, 10, 11, 12, 13, 14, 15, 16, 17, 19, 20, 23, 26, 27, 28, 29], [0, 1, 2, 3, 4, 5, 6, 7, 8, 9, 10, 11, 12, 13, 14, 15, 16, 17, 18, 19, 20, 21, 22, 23, 24, 26, 27, 28, 29, 30, 33, 36, 37, 38, 39], [0, 1, 2, 3, 4, 5, 6, 7, 8, 9, 10, 11, 12, 13, 14, 15, 16, 17, 18, 19, 20, 21, 22, 23, 24, 26, 27, 28, 29, 30, 33, 36, 39], [0, 1, 2, 3, 4, 5, 6, 7, 8, 9, 10, 11, 12, 13, 14, 15, 16, 17, 18, 19, 20, 21, 22, 23, 24, 26, 27, 28, 29, 30, 33, 34, 35, 38, 39], [0, 1, 2, 3, 4, 5, 6, 7, 8, 9, 10, 11, 12, 13, 14, 15, 16, 17, 18, 19, 20, 21, 22, 23, 24, 26, 27, 28, 29, 30, 33, 35, 39], [0, 1, 2, 3, 4, 5, 6, 7, 8, 9, 10, 11, 12, 13, 14, 15, 16, 17, 18, 19, 20, 21, 22, 23, 24, 26, 27, 28, 29, 30, 33], [0, 1, 2, 3, 4, 5, 6, 7, 8, 9, 10, 11, 12, 13, 14, 15, 16, 17, 18, 19, 20, 21, 22, 23, 24, 26, 27, 28, 29, 30, 33], []] [0, 1, 2, 3, 4, 5, 6, 7, 8, 9, 10, 11, 12, 13, 14, 15, 16, 17, 18, 19, 20, 21, 22, 23, 24, 25, 26, 27, 28, 29, 30, 31, 32, 33, 34, 35, 36, 37, 38, 39, 40] 41 (by kernel_rfl) (by kernel_rfl) (by kernel_rfl) (by kernel_rfl) ?rS (fun j h1 h2 => absurd (Nat.lt_of_lt_of_le h1 (Nat.le_trans (by decide) h2)) (Nat.lt_irrefl _)) ?rT ?rE
        case rS => exact below_drewN (Below.refl _ _) 1
        case rT =>
          refine RelySteps.cons (RelyStep.mk [] [2, 3, 4, 5, 6, 7, 8, 9, 10, 11, 12, 13, 14, 15, 16, 17, 18, 19, 20, 21, 22, 23, 24, 25, 26, 27, 28, 29, 30, 31, 32, 33, 34, 35, 36, 37, 38, 39] rfl rfl rfl (fun xv wS hS hV bq hb K hK => ?_)) ?_
          · clear hV
            simp only [putsOf, List.foldl_cons, List.foldl_nil, List.getD_cons_zero, List.getD_cons_succ, List.getD_nil, cond_true, cond_false, Act.put, List.setIfInBounds_toArray, List.set_cons_zero, List.set_cons_succ] at hb
            subst hb
            rw [if_pos (by rfl)]
            go_wp2_with fail
            exact hK.out _ _ ⟨_, rfl, hS, rfl, AllP.same _⟩
          refine RelySteps.cons (RelyStep.mk [0] [3, 4, 5, 6, 7, 8, 9, 10, 11, 12, 13, 14, 15, 16, 17, 18, 19, 20, 21, 22, 23, 24, 25, 26, 27, 28, 29, 30, 31, 32, 33, 34, 35, 36, 37, 38, 39] rfl rfl rfl (fun xv wS hS hV bq hb K hK => ?_)) ?_
          · obtain ⟨h0, _⟩ := hV
            have h0 : xv 0 = _ := h0
            simp only [putsOf, List.foldl_cons, List.foldl_nil, List.getD_cons_zero, List.getD_cons_succ, List.getD_nil, cond_true, cond_false, Act.put, List.setIfInBounds_toArray, List.set_cons_zero, List.set_cons_succ, h0] at hb
            clear h0
            subst hb
            rw [if_pos (by rfl)]
            (have q1 := HL.out.below hS HL.out.lt; have c0 := (q1.cell 0).trans (show _ = some (Value.int .i64 z.op) from rfl); have c1 := (q1.cell 1).trans (show _ = some (Value.int .i64 z.a) from rfl); have c2 := (q1.cell 2).trans (show _ = some (Value.int .i64 z.b) from rfl); have c3 := (q1.cell 3).trans (show _ = some (Value.int .i64 z.c) from rfl); have c4 := (q1.cell 4).trans (show _ = some (Value.int .i64 z.d) from rfl); have c5 := (q1.cell 5).trans (show _ = some (Value.int .u64 (z.k : Int)) from rfl); have cl := q1.lt; clear q1)
            go_wp2_with fail
            exact hK.out _ _ ⟨_, rfl, hS, rfl, AllP.same _⟩
          refine RelySteps.cons (RelyStep.mk [1] [3, 6, 7, 8, 9, 10, 11, 12, 13, 14, 15, 16, 17, 18, 19, 20, 21, 22, 23, 24, 25, 26, 27, 28, 29, 30, 31, 32, 33, 34, 35, 36, 37, 38, 39] rfl rfl rfl (fun xv wS hS hV bq hb K hK => ?_)) ?_
          · obtain ⟨h1, _⟩ := hV
            have h1 : xv 1 = _ := h1
            simp only [putsOf, List.foldl_cons, List.foldl_nil, List.getD_cons_zero, List.getD_cons_succ, List.getD_nil, cond_true, cond_false, Act.put, List.setIfInBounds_toArray, List.set_cons_zero, List.set_cons_succ, h1] at hb
            clear h1
            subst hb
            rw [if_pos (by rfl)]
            have HSS := Lib.hid hS
            clear hS
            go_wp2_with fail
            refine (name_any z.op _ (HN.out.later (HB.out.trans (HSS.out.mono HB.out.size)) hgl)).mono ?_
            rintro e w9 ⟨rfl, rfl⟩
            exact hK.out _ _ ⟨_, rfl, HSS.out, rfl, AllP.same _⟩
          refine RelySteps.cons (RelyStep.mk [] [0, 1, 2, 5, 6, 7, 8, 9, 10, 11, 12, 13, 14, 15, 16, 17, 18, 19, 20, 21, 22, 23, 24, 25, 26, 27, 28, 29, 30, 31, 32, 33, 34, 35, 36, 37, 38, 39] rfl rfl rfl (fun xv wS hS hV bq hb K hK => ?_)) ?_
          · clear hV
            simp only [putsOf, List.foldl_cons, List.foldl_nil, List.getD_cons_zero, List.getD_cons_succ, List.getD_nil, cond_true, cond_false, Act.put, List.setIfInBounds_toArray, List.set_cons_zero, List.set_cons_succ] at hb
            subst hb
            rw [if_pos (by rfl)]
            go_wp2_with fail
            exact hK.out _ _ ⟨_, rfl, hS, rfl, AllP.same _⟩
          refine RelySteps.cons (RelyStep.mk [2, 3] [6, 7, 8, 9, 10, 11, 12, 13, 14, 15, 16, 17, 18, 19, 20, 21, 22, 23, 24, 25, 26, 27, 28, 29, 30, 31, 32, 33, 34, 35, 36, 37, 38, 39] rfl rfl rfl (fun xv wS hS hV bq hb K hK => ?_)) ?_
          · obtain ⟨h2, h3, _⟩ := hV
            have h2 : xv 2 = _ := h2
            have h3 : xv 3 = _ := h3
            simp only [putsOf, List.foldl_cons, List.foldl_nil, List.getD_cons_zero, List.getD_cons_succ, List.getD_nil, cond_true, cond_false, Act.put, List.setIfInBounds_toArray, List.set_cons_zero, List.set_cons_succ, h2, h3] at hb
            clear h2
            clear h3
            subst hb
            rw [if_pos (by rfl)]
            go_wp2_with fail
            exact hK.out _ _ ⟨_, rfl, hS, rfl, AllP.same _⟩
          refine RelySteps.cons (RelyStep.mk [4] [13, 14, 15, 19, 20, 21, 22, 23, 24, 25, 26, 27, 28, 29, 30, 31, 32, 33, 34, 35, 36, 37, 38, 39] rfl rfl rfl (fun xv wS hS hV bq hb K hK => ?_)) ?_
          · obtain ⟨h4, _⟩ := hV
            have h4 : xv 4 = _ := h4
            simp only [putsOf, List.foldl_cons, List.foldl_nil, List.getD_cons_zero, List.getD_cons_succ, List.getD_nil, cond_true, cond_false, Act.put, List.setIfInBounds_toArray, List.set_cons_zero, List.set_cons_succ, h4] at hb
            clear h4
            subst hb
            rw [if_pos (by rfl)]
            go_wp2_with fail
            exact hK.out _ _ ⟨_, rfl, hS, rfl, AllP.same _⟩
          refine RelySteps.cons (RelyStep.mk [5] [0, 5, 8, 9, 10, 11, 12, 13, 14, 15, 16, 17, 18, 19, 20, 21, 22, 23, 24, 25, 26, 27, 28, 29, 30, 31, 32, 33, 34, 35, 36, 37, 38, 39] rfl rfl rfl (fun xv wS hS hV bq hb K hK => ?_)) ?_
          · obtain ⟨h5, _⟩ := hV
            have h5 : xv 5 = _ := h5
            simp only [putsOf, List.foldl_cons, List.foldl_nil, List.getD_cons_zero, List.getD_cons_succ, List.getD_nil, cond_true, cond_false, Act.put, List.setIfInBounds_toArray, List.set_cons_zero, List.set_cons_succ, h5] at hb
            clear h5
            subst hb
            rw [if_pos (by rfl)]
            go_wp2_with fail
            exact hK.out _ _ ⟨_, rfl, hS, rfl, AllP.same _⟩
          refine RelySteps.cons (RelyStep.mk [6, 5] [0, 5, 9, 10, 11, 12, 13, 14, 15, 16, 17, 18, 19, 20, 21, 22, 23, 24, 25, 26, 27, 28, 29, 30, 31, 32, 33, 34, 35, 36, 37, 38, 39] rfl rfl rfl (fun xv wS hS hV bq hb K hK => ?_)) ?_
          · obtain ⟨h6, h5, _⟩ := hV
            have h6 : xv 6 = _ := h6
            have h5 : xv 5 = _ := h5
            simp only [putsOf, List.foldl_cons, List.foldl_nil, List.getD_cons_zero, List.getD_cons_succ, List.getD_nil, cond_true, cond_false, Act.put, List.setIfInBounds_toArray, List.set_cons_zero, List.set_cons_succ, h6, h5] at hb
            clear h6
            clear h5
            subst hb
            rw [if_pos (by rfl)]
            (have q1 := HL.out.below hS HL.out.lt; have c0 := (q1.cell 0).trans (show _ = some (Value.int .i64 z.op) from rfl); have c1 := (q1.cell 1).trans (show _ = some (Value.int .i64 z.a) from rfl); have c2 := (q1.cell 2).trans (show _ = some (Value.int .i64 z.b) from rfl); have c3 := (q1.cell 3).trans (show _ = some (Value.int .i64 z.c) from rfl); have c4 := (q1.cell 4).trans (show _ = some (Value.int .i64 z.d) from rfl); have c5 := (q1.cell 5).trans (show _ = some (Value.int .u64 (z.k : Int)) from rfl); have cl := q1.lt; clear q1)
            go_wp2_with fail
            exact hK.out _ _ ⟨_, rfl, hS, rfl, AllP.same _⟩
          refine RelySteps.cons (RelyStep.mk [7, 5] [0, 5, 9, 10, 11, 13, 14, 15, 16, 18, 19, 20, 21, 22, 23, 24, 25, 26, 27, 28, 29, 30, 31, 32, 33, 34, 35, 36, 37, 38, 39] rfl rfl rfl (fun xv wS hS hV bq hb K hK => ?_)) ?_
          · obtain ⟨h7, h5, _⟩ := hV
            have h7 : xv 7 = _ := h7
            have h5 : xv 5 = _ := h5
            simp only [putsOf, List.foldl_cons, List.foldl_nil, List.getD_cons_zero, List.getD_cons_succ, List.getD_nil, cond_true, cond_false, Act.put, List.setIfInBounds_toArray, List.set_cons_zero, List.set_cons_succ, h7, h5] at hb
            clear h7
            clear h5
            subst hb
            rw [if_pos (by rfl)]
            have HSS := Lib.hid hS
            clear hS
            go_wp2_with fail
            refine (HPL.out _).mono ?_
            rintro e w9 ⟨rfl, rfl⟩
            exact hK.out _ _ ⟨_, rfl, HSS.out, rfl, AllP.same _⟩
          refine RelySteps.cons (RelyStep.mk [5] [0, 5, 6, 7, 8, 11, 12, 13, 14, 15, 16, 17, 18, 19, 20, 21, 22, 23, 24, 25, 26, 27, 28, 29, 30, 31, 32, 33, 34, 35, 36, 37, 38, 39] rfl rfl rfl (fun xv wS hS hV bq hb K hK => ?_)) ?_
          · obtain ⟨h5, _⟩ := hV
            have h5 : xv 5 = _ := h5
            simp only [putsOf, List.foldl_cons, List.foldl_nil, List.getD_cons_zero, List.getD_cons_succ, List.getD_nil, cond_true, cond_false, Act.put, List.setIfInBounds_toArray, List.set_cons_zero, List.set_cons_succ, h5] at hb
            clear h5
            subst hb
            rw [if_pos (by rfl)]
            go_wp2_with fail
            exact hK.out _ _ ⟨_, rfl, hS, rfl, AllP.same _⟩
          refine RelySteps.cons (RelyStep.mk [9, 5] [0, 5, 6, 7, 8, 12, 13, 14, 15, 16, 17, 18, 19, 20, 21, 22, 23, 24, 25, 26, 27, 28, 29, 30, 31, 32, 33, 34, 35, 36, 37, 38, 39] rfl rfl rfl (fun xv wS hS hV bq hb K hK => ?_)) ?_
          · obtain ⟨h9, h5, _⟩ := hV
            have h9 : xv 9 = _ := h9
            have h5 : xv 5 = _ := h5
            simp only [putsOf, List.foldl_cons, List.foldl_nil, List.getD_cons_zero, List.getD_cons_succ, List.getD_nil, cond_true, cond_false, Act.put, List.setIfInBounds_toArray, List.set_cons_zero, List.set_cons_succ, h9, h5] at hb
            clear h9
            clear h5
            subst hb
            rw [if_pos (by rfl)]
            (have q1 := HL.out.below hS HL.out.lt; have c0 := (q1.cell 0).trans (show _ = some (Value.int .i64 z.op) from rfl); have c1 := (q1.cell 1).trans (show _ = some (Value.int .i64 z.a) from rfl); have c2 := (q1.cell 2).trans (show _ = some (Value.int .i64 z.b) from rfl); have c3 := (q1.cell 3).trans (show _ = some (Value.int .i64 z.c) from rfl); have c4 := (q1.cell 4).trans (show _ = some (Value.int .i64 z.d) from rfl); have c5 := (q1.cell 5).trans (show _ = some (Value.int .u64 (z.k : Int)) from rfl); have cl := q1.lt; clear q1)
            go_wp2_with fail
            exact hK.out _ _ ⟨_, rfl, hS, rfl, AllP.same _⟩
          refine RelySteps.cons (RelyStep.mk [10, 5] [0, 5, 6, 7, 8, 13, 14, 15, 16, 17, 18, 19, 20, 21, 22, 23, 24, 25, 26, 27, 28, 29, 30, 31, 32, 33, 34, 35, 36, 37, 38, 39] rfl rfl rfl (fun xv wS hS hV bq hb K hK => ?_)) ?_
          · obtain ⟨h10, h5, _⟩ := hV
            have h10 : xv 10 = _ := h10
            have h5 : xv 5 = _ := h5
            simp only [putsOf, List.foldl_cons, List.foldl_nil, List.getD_cons_zero, List.getD_cons_succ, List.getD_nil, cond_true, cond_false, Act.put, List.setIfInBounds_toArray, List.set_cons_zero, List.set_cons_succ, h10, h5] at hb
            clear h10
            clear h5
            subst hb
            rw [if_pos (by rfl)]
            go_wp2_with fail
            exact hK.out _ _ ⟨_, rfl, hS, rfl, AllP.same _⟩
          refine RelySteps.cons (RelyStep.mk [11, 5] [0, 5, 8, 17, 18, 20, 21, 22, 23, 24, 25, 26, 27, 28, 29, 30, 31, 32, 33, 34, 35, 36, 37, 38, 39] rfl rfl rfl (fun xv wS hS hV bq hb K hK => ?_)) ?_
          · obtain ⟨h11, h5, _⟩ := hV
            have h11 : xv 11 = _ := h11
            have h5 : xv 5 = _ := h5
            simp only [putsOf, List.foldl_cons, List.foldl_nil, List.getD_cons_zero, List.getD_cons_succ, List.getD_nil, cond_true, cond_false, Act.put, List.setIfInBounds_toArray, List.set_cons_zero, List.set_cons_succ, h11, h5] at hb
            clear h11
            clear h5
            subst hb
            rw [if_pos (by rfl)]
            go_wp2_with fail
            exact hK.out _ _ ⟨_, rfl, hS, rfl, AllP.same _⟩
          refine RelySteps.cons (RelyStep.mk [12] [0, 1, 2, 3, 5, 6, 8, 9, 12, 15, 16, 17, 18, 19, 20, 21, 22, 23, 24, 25, 26, 27, 28, 29, 30, 31, 32, 33, 34, 35, 36, 37, 38, 39] rfl rfl rfl (fun xv wS hS hV bq hb K hK => ?_)) ?_
          · obtain ⟨h12, _⟩ := hV
            have h12 : xv 12 = _ := h12
            simp only [putsOf, List.foldl_cons, List.foldl_nil, List.getD_cons_zero, List.getD_cons_succ, List.getD_nil, cond_true, cond_false, Act.put, List.setIfInBounds_toArray, List.set_cons_zero, List.set_cons_succ, h12] at hb
            clear h12
            subst hb
            first
              | (rw [if_pos (by rfl)]
                 go_wp2_with fail
                 exact hK.out _ _ ⟨_, rfl, hS, rfl, AllP.same _⟩)
              | (refine not_wanted (by rfl) ?_
                 exact hK.out _ _ ⟨undef, rfl, hS, rfl, AllP.same _⟩)
          refine RelySteps.cons (RelyStep.mk [13, 12] [0, 1, 2, 3, 5, 6, 8, 9, 12, 16, 17, 18, 19, 20, 21, 22, 23, 24, 25, 26, 27, 28, 29, 30, 31, 32, 33, 34, 35, 36, 37, 38, 39] rfl rfl rfl (fun xv wS hS hV bq hb K hK => ?_)) ?_
          · obtain ⟨h13, h12, _⟩ := hV
            have h13 : xv 13 = _ := h13
            have h12 : xv 12 = _ := h12
            simp only [putsOf, List.foldl_cons, List.foldl_nil, List.getD_cons_zero, List.getD_cons_succ, List.getD_nil, cond_true, cond_false, Act.put, List.setIfInBounds_toArray, List.set_cons_zero, List.set_cons_succ, h13, h12] at hb
            clear h13
            clear h12
            subst hb
            first
              | (rw [if_pos (by rfl)]
                 have q1 := HL.out.below hS HL.out.lt
                 have c0 := (q1.cell 0).trans (show _ = some (Value.int .i64 z.op) from rfl)
                 have c1 := (q1.cell 1).trans (show _ = some (Value.int .i64 z.a) from rfl)
                 have c2 := (q1.cell 2).trans (show _ = some (Value.int .i64 z.b) from rfl)
                 have c3 := (q1.cell 3).trans (show _ = some (Value.int .i64 z.c) from rfl)
                 have c4 := (q1.cell 4).trans (show _ = some (Value.int .i64 z.d) from rfl)
                 have c5 := (q1.cell 5).trans (show _ = some (Value.int .u64 (z.k : Int)) from rfl)
                 have cl := q1.lt
                 clear q1
                 go_wp2_with fail
                 exact hK.out _ _ ⟨_, rfl, hS, rfl, AllP.same _⟩)
              | (refine not_wanted (by rfl) ?_
                 exact hK.out _ _ ⟨undef, rfl, hS, rfl, AllP.same _⟩)
          refine RelySteps.cons (RelyStep.mk [14, 12] [0, 1, 2, 3, 5, 6, 8, 9, 12, 17, 18, 19, 20, 21, 22, 23, 24, 25, 26, 27, 28, 29, 30, 31, 32, 33, 34, 35, 36, 37, 38, 39] rfl rfl rfl (fun xv wS hS hV bq hb K hK => ?_)) ?_
          · obtain ⟨h14, h12, _⟩ := hV
            have h14 : xv 14 = _ := h14
            have h12 : xv 12 = _ := h12
            simp only [putsOf, List.foldl_cons, List.foldl_nil, List.getD_cons_zero, List.getD_cons_succ, List.getD_nil, cond_true, cond_false, Act.put, List.setIfInBounds_toArray, List.set_cons_zero, List.set_cons_succ, h14, h12] at hb
            clear h14
            clear h12
            subst hb
            first
              | (rw [if_pos (by rfl)]
                 go_wp2_with fail
                 exact hK.out _ _ ⟨_, rfl, hS, rfl, AllP.same _⟩)
              | (refine not_wanted (by rfl) ?_
                 exact hK.out _ _ ⟨undef, rfl, hS, rfl, AllP.same _⟩)
          refine RelySteps.cons (RelyStep.mk [12, 15, 5] [0, 5, 6, 8, 9, 12, 18, 19, 20, 21, 22, 23, 24, 25, 26, 27, 28, 29, 30, 31, 32, 33, 34, 35, 36, 37, 38, 39] rfl rfl rfl (fun xv wS hS hV bq hb K hK => ?_)) ?_
          · obtain ⟨h12, h15, h5, _⟩ := hV
            have h12 : xv 12 = _ := h12
            have h15 : xv 15 = _ := h15
            have h5 : xv 5 = _ := h5
            simp only [putsOf, List.foldl_cons, List.foldl_nil, List.getD_cons_zero, List.getD_cons_succ, List.getD_nil, cond_true, cond_false, Act.put, List.setIfInBounds_toArray, List.set_cons_zero, List.set_cons_succ, h12, h15, h5] at hb
            clear h12
            clear h15
            clear h5
            subst hb
            rw [if_pos (by rfl)]
            go_wp2_with fail
            exact hK.out _ _ ⟨_, rfl, hS, rfl, AllP.same _⟩
          refine RelySteps.cons (RelyStep.mk [8, 16, 5] [0, 5, 9, 10, 12, 13, 19, 20, 21, 22, 23, 24, 25, 26, 27, 28, 29, 30, 31, 32, 33, 34, 35, 36, 37, 38, 39] rfl rfl rfl (fun xv wS hS hV bq hb K hK => ?_)) ?_
          · obtain ⟨h8, h16, h5, _⟩ := hV
            have h8 : xv 8 = _ := h8
            have h16 : xv 16 = _ := h16
            have h5 : xv 5 = _ := h5
            simp only [putsOf, List.foldl_cons, List.foldl_nil, List.getD_cons_zero, List.getD_cons_succ, List.getD_nil, cond_true, cond_false, Act.put, List.setIfInBounds_toArray, List.set_cons_zero, List.set_cons_succ, h8, h16, h5] at hb
            clear h8
            clear h16
            clear h5
            subst hb
            rw [if_pos (by rfl)]
            go_wp2_with fail
            exact hK.out _ _ ⟨_, rfl, hS, rfl, AllP.same _⟩
          refine RelySteps.cons (RelyStep.mk [5, 17] [0, 5, 6, 9, 10, 11, 12, 13, 14, 20, 21, 22, 23, 24, 25, 26, 27, 28, 29, 30, 31, 32, 33, 34, 35, 36, 37, 38, 39] rfl rfl rfl (fun xv wS hS hV bq hb K hK => ?_)) ?_
          · obtain ⟨h5, h17, _⟩ := hV
            have h5 : xv 5 = _ := h5
            have h17 : xv 17 = _ := h17
            simp only [putsOf, List.foldl_cons, List.foldl_nil, List.getD_cons_zero, List.getD_cons_succ, List.getD_nil, cond_true, cond_false, Act.put, List.setIfInBounds_toArray, List.set_cons_zero, List.set_cons_succ, h5, h17] at hb
            clear h5
            clear h17
            subst hb
            rw [if_pos (by rfl)]
            go_wp2_with fail
            exact hK.out _ _ ⟨_, rfl, hS, rfl, AllP.same _⟩
          refine RelySteps.cons (RelyStep.mk [18] [0, 1, 2, 3, 5, 6, 9, 12, 13, 14, 15, 27, 28, 29, 33, 34, 35, 36, 37, 38, 39] rfl rfl rfl (fun xv wS hS hV bq hb K hK => ?_)) ?_
          · obtain ⟨h18, _⟩ := hV
            have h18 : xv 18 = _ := h18
            simp only [putsOf, List.foldl_cons, List.foldl_nil, List.getD_cons_zero, List.getD_cons_succ, List.getD_nil, cond_true, cond_false, Act.put, List.setIfInBounds_toArray, List.set_cons_zero, List.set_cons_succ, h18] at hb
            clear h18
            subst hb
            rw [if_pos (by rfl)]
            go_wp2_with fail
            exact hK.out _ _ ⟨_, rfl, hS, rfl, AllP.same _⟩
          refine RelySteps.cons (RelyStep.mk [19] [0, 1, 2, 3, 4, 5, 6, 7, 8, 9, 10, 12, 13, 14, 15, 16, 19, 22, 23, 24, 25, 26, 27, 28, 29, 30, 31, 32, 33, 34, 35, 36, 37, 38, 39] rfl rfl rfl (fun xv wS hS hV bq hb K hK => ?_)) ?_
          · obtain ⟨h19, _⟩ := hV
            have h19 : xv 19 = _ := h19
            simp only [putsOf, List.foldl_cons, List.foldl_nil, List.getD_cons_zero, List.getD_cons_succ, List.getD_nil, cond_true, cond_false, Act.put, List.setIfInBounds_toArray, List.set_cons_zero, List.set_cons_succ, h19] at hb
            clear h19
            subst hb
            rw [if_pos (by rfl)]
            go_wp2_with fail
            exact hK.out _ _ ⟨_, rfl, hS, rfl, AllP.same _⟩
          refine RelySteps.cons (RelyStep.mk [20, 19] [0, 1, 2, 3, 4, 5, 6, 7, 8, 9, 10, 12, 13, 14, 15, 16, 19, 23, 24, 25, 26, 27, 28, 29, 30, 31, 32, 33, 34, 35, 36, 37, 38, 39] rfl rfl rfl (fun xv wS hS hV bq hb K hK => ?_)) ?_
          · obtain ⟨h20, h19, _⟩ := hV
            have h20 : xv 20 = _ := h20
            have h19 : xv 19 = _ := h19
            simp only [putsOf, List.foldl_cons, List.foldl_nil, List.getD_cons_zero, List.getD_cons_succ, List.getD_nil, cond_true, cond_false, Act.put, List.setIfInBounds_toArray, List.set_cons_zero, List.set_cons_succ, h20, h19] at hb
            clear h20
            clear h19
            subst hb
            rw [if_pos (by rfl)]
            (have q1 := HL.out.below hS HL.out.lt; have c0 := (q1.cell 0).trans (show _ = some (Value.int .i64 z.op) from rfl); have c1 := (q1.cell 1).trans (show _ = some (Value.int .i64 z.a) from rfl); have c2 := (q1.cell 2).trans (show _ = some (Value.int .i64 z.b) from rfl); have c3 := (q1.cell 3).trans (show _ = some (Value.int .i64 z.c) from rfl); have c4 := (q1.cell 4).trans (show _ = some (Value.int .i64 z.d) from rfl); have c5 := (q1.cell 5).trans (show _ = some (Value.int .u64 (z.k : Int)) from rfl); have cl := q1.lt; clear q1)
            go_wp2_with fail
            exact hK.out _ _ ⟨_, rfl, hS, rfl, AllP.same _⟩
          refine RelySteps.cons (RelyStep.mk [21, 19] [0, 1, 2, 3, 4, 5, 6, 7, 8, 9, 10, 12, 13, 14, 15, 16, 19, 23, 24, 25, 27, 28, 29, 30, 32, 33, 34, 35, 36, 37, 38, 39] rfl rfl rfl (fun xv wS hS hV bq hb K hK => ?_)) ?_
          · obtain ⟨h21, h19, _⟩ := hV
            have h21 : xv 21 = _ := h21
            have h19 : xv 19 = _ := h19
            simp only [putsOf, List.foldl_cons, List.foldl_nil, List.getD_cons_zero, List.getD_cons_succ, List.getD_nil, cond_true, cond_false, Act.put, List.setIfInBounds_toArray, List.set_cons_zero, List.set_cons_succ, h21, h19] at hb
            clear h21
            clear h19
            subst hb
            rw [if_pos (by rfl)]
            have HSS := Lib.hid hS
            clear hS
            go_wp2_with fail
            refine (HSE.out _).mono ?_
            rintro e w9 ⟨rfl, rfl⟩
            exact hK.out _ _ ⟨_, rfl, HSS.out, rfl, AllP.same _⟩
          refine RelySteps.cons (RelyStep.mk [19] [0, 1, 2, 3, 4, 5, 6, 7, 8, 9, 10, 12, 13, 14, 15, 16, 19, 20, 21, 22, 25, 26, 27, 28, 29, 30, 31, 32, 33, 34, 35, 36, 37, 38, 39] rfl rfl rfl (fun xv wS hS hV bq hb K hK => ?_)) ?_
          · obtain ⟨h19, _⟩ := hV
            have h19 : xv 19 = _ := h19
            simp only [putsOf, List.foldl_cons, List.foldl_nil, List.getD_cons_zero, List.getD_cons_succ, List.getD_nil, cond_true, cond_false, Act.put, List.setIfInBounds_toArray, List.set_cons_zero, List.set_cons_succ, h19] at hb
            clear h19
            subst hb
            rw [if_pos (by rfl)]
            go_wp2_with fail
            exact hK.out _ _ ⟨_, rfl, hS, rfl, AllP.same _⟩
          refine RelySteps.cons (RelyStep.mk [23, 19] [0, 1, 2, 3, 4, 5, 6, 7, 8, 9, 10, 12, 13, 14, 15, 16, 19, 20, 21, 22, 26, 27, 28, 29, 30, 31, 32, 33, 34, 35, 36, 37, 38, 39] rfl rfl rfl (fun xv wS hS hV bq hb K hK => ?_)) ?_
          · obtain ⟨h23, h19, _⟩ := hV
            have h23 : xv 23 = _ := h23
            have h19 : xv 19 = _ := h19
            simp only [putsOf, List.foldl_cons, List.foldl_nil, List.getD_cons_zero, List.getD_cons_succ, List.getD_nil, cond_true, cond_false, Act.put, List.setIfInBounds_toArray, List.set_cons_zero, List.set_cons_succ, h23, h19] at hb
            clear h23
            clear h19
            subst hb
            rw [if_pos (by rfl)]
            (have q1 := HL.out.below hS HL.out.lt; have c0 := (q1.cell 0).trans (show _ = some (Value.int .i64 z.op) from rfl); have c1 := (q1.cell 1).trans (show _ = some (Value.int .i64 z.a) from rfl); have c2 := (q1.cell 2).trans (show _ = some (Value.int .i64 z.b) from rfl); have c3 := (q1.cell 3).trans (show _ = some (Value.int .i64 z.c) from rfl); have c4 := (q1.cell 4).trans (show _ = some (Value.int .i64 z.d) from rfl); have c5 := (q1.cell 5).trans (show _ = some (Value.int .u64 (z.k : Int)) from rfl); have cl := q1.lt; clear q1)
            go_wp2_with fail
            exact hK.out _ _ ⟨_, rfl, hS, rfl, AllP.same _⟩
          refine RelySteps.cons (RelyStep.mk [24, 19] [0, 1, 2, 3, 4, 5, 6, 7, 8, 9, 10, 12, 13, 14, 15, 16, 19, 20, 21, 22, 27, 28, 29, 30, 31, 32, 33, 34, 35, 36, 37, 38, 39] rfl rfl rfl (fun xv wS hS hV bq hb K hK => ?_)) ?_
          · obtain ⟨h24, h19, _⟩ := hV
            have h24 : xv 24 = _ := h24
            have h19 : xv 19 = _ := h19
            simp only [putsOf, List.foldl_cons, List.foldl_nil, List.getD_cons_zero, List.getD_cons_succ, List.getD_nil, cond_true, cond_false, Act.put, List.setIfInBounds_toArray, List.set_cons_zero, List.set_cons_succ, h24, h19] at hb
            clear h24
            clear h19
            subst hb
            rw [if_pos (by rfl)]
            go_wp2_with fail
            exact hK.out _ _ ⟨_, rfl, hS, rfl, AllP.same _⟩
          refine RelySteps.cons (RelyStep.mk [25, 19] [0, 1, 2, 3, 4, 5, 6, 7, 8, 9, 10, 12, 13, 14, 15, 16, 19, 22, 31, 32, 34, 35, 36, 37, 38, 39] rfl rfl rfl (fun xv wS hS hV bq hb K hK => ?_)) ?_
          · obtain ⟨h25, h19, _⟩ := hV
            have h25 : xv 25 = _ := h25
            have h19 : xv 19 = _ := h19
            simp only [putsOf, List.foldl_cons, List.foldl_nil, List.getD_cons_zero, List.getD_cons_succ, List.getD_nil, cond_true, cond_false, Act.put, List.setIfInBounds_toArray, List.set_cons_zero, List.set_cons_succ, h25, h19] at hb
            clear h25
            clear h19
            subst hb
            rw [if_pos (by rfl)]
            go_wp2_with fail
            exact hK.out _ _ ⟨_, rfl, hS, rfl, AllP.same _⟩
          refine RelySteps.cons (RelyStep.mk [26] [0, 1, 2, 3, 4, 5, 6, 7, 8, 9, 10, 11, 12, 13, 14, 15, 16, 17, 19, 20, 22, 23, 26, 29, 30, 31, 32, 33, 34, 35, 36, 37, 38, 39] rfl rfl rfl (fun xv wS hS hV bq hb K hK => ?_)) ?_
          · obtain ⟨h26, _⟩ := hV
            have h26 : xv 26 = _ := h26
            simp only [putsOf, List.foldl_cons, List.foldl_nil, List.getD_cons_zero, List.getD_cons_succ, List.getD_nil, cond_true, cond_false, Act.put, List.setIfInBounds_toArray, List.set_cons_zero, List.set_cons_succ, h26] at hb
            clear h26
            subst hb
            first
              | (rw [if_pos (by rfl)]
                 go_wp2_with fail
                 exact hK.out _ _ ⟨_, rfl, hS, rfl, AllP.same _⟩)
              | (refine not_wanted (by rfl) ?_
                 exact hK.out _ _ ⟨undef, rfl, hS, rfl, AllP.same _⟩)
          refine RelySteps.cons (RelyStep.mk [27, 26] [0, 1, 2, 3, 4, 5, 6, 7, 8, 9, 10, 11, 12, 13, 14, 15, 16, 17, 19, 20, 22, 23, 26, 30, 31, 32, 33, 34, 35, 36, 37, 38, 39] rfl rfl rfl (fun xv wS hS hV bq hb K hK => ?_)) ?_
          · obtain ⟨h27, h26, _⟩ := hV
            have h27 : xv 27 = _ := h27
            have h26 : xv 26 = _ := h26
            simp only [putsOf, List.foldl_cons, List.foldl_nil, List.getD_cons_zero, List.getD_cons_succ, List.getD_nil, cond_true, cond_false, Act.put, List.setIfInBounds_toArray, List.set_cons_zero, List.set_cons_succ, h27, h26] at hb
            clear h27
            clear h26
            subst hb
            first
              | (rw [if_pos (by rfl)]
                 have q1 := HL.out.below hS HL.out.lt
                 have c0 := (q1.cell 0).trans (show _ = some (Value.int .i64 z.op) from rfl)
                 have c1 := (q1.cell 1).trans (show _ = some (Value.int .i64 z.a) from rfl)
                 have c2 := (q1.cell 2).trans (show _ = some (Value.int .i64 z.b) from rfl)
                 have c3 := (q1.cell 3).trans (show _ = some (Value.int .i64 z.c) from rfl)
                 have c4 := (q1.cell 4).trans (show _ = some (Value.int .i64 z.d) from rfl)
                 have c5 := (q1.cell 5).trans (show _ = some (Value.int .u64 (z.k : Int)) from rfl)
                 have cl := q1.lt
                 clear q1
                 go_wp2_with fail
                 exact hK.out _ _ ⟨_, rfl, hS, rfl, AllP.same _⟩)
              | (refine not_wanted (by rfl) ?_
                 exact hK.out _ _ ⟨undef, rfl, hS, rfl, AllP.same _⟩)
          refine RelySteps.cons (RelyStep.mk [28, 26] [0, 1, 2, 3, 4, 5, 6, 7, 8, 9, 10, 11, 12, 13, 14, 15, 16, 17, 19, 20, 22, 23, 26, 31, 32, 33, 34, 35, 36, 37, 38, 39] rfl rfl rfl (fun xv wS hS hV bq hb K hK => ?_)) ?_
          · obtain ⟨h28, h26, _⟩ := hV
            have h28 : xv 28 = _ := h28
            have h26 : xv 26 = _ := h26
            simp only [putsOf, List.foldl_cons, List.foldl_nil, List.getD_cons_zero, List.getD_cons_succ, List.getD_nil, cond_true, cond_false, Act.put, List.setIfInBounds_toArray, List.set_cons_zero, List.set_cons_succ, h28, h26] at hb
            clear h28
            clear h26
            subst hb
            first
              | (rw [if_pos (by rfl)]
                 go_wp2_with fail
                 exact hK.out _ _ ⟨_, rfl, hS, rfl, AllP.same _⟩)
              | (refine not_wanted (by rfl) ?_
                 exact hK.out _ _ ⟨undef, rfl, hS, rfl, AllP.same _⟩)
          refine RelySteps.cons (RelyStep.mk [26, 29, 19] [0, 1, 2, 3, 4, 5, 6, 7, 8, 9, 10, 12, 13, 14, 15, 16, 19, 20, 22, 23, 26, 32, 33, 34, 35, 36, 37, 38, 39] rfl rfl rfl (fun xv wS hS hV bq hb K hK => ?_)) ?_
          · obtain ⟨h26, h29, h19, _⟩ := hV
            have h26 : xv 26 = _ := h26
            have h29 : xv 29 = _ := h29
            have h19 : xv 19 = _ := h19
            simp only [putsOf, List.foldl_cons, List.foldl_nil, List.getD_cons_zero, List.getD_cons_succ, List.getD_nil, cond_true, cond_false, Act.put, List.setIfInBounds_toArray, List.set_cons_zero, List.set_cons_succ, h26, h29, h19] at hb
            clear h26
            clear h29
            clear h19
            subst hb
            rw [if_pos (by rfl)]
            go_wp2_with fail
            exact hK.out _ _ ⟨_, rfl, hS, rfl, AllP.same _⟩
          refine RelySteps.cons (RelyStep.mk [22, 30, 19] [0, 1, 2, 3, 4, 5, 6, 7, 8, 9, 10, 12, 13, 14, 15, 16, 19, 23, 24, 26, 27, 33, 34, 35, 36, 37, 38, 39] rfl rfl rfl (fun xv wS hS hV bq hb K hK => ?_)) ?_
          · obtain ⟨h22, h30, h19, _⟩ := hV
            have h22 : xv 22 = _ := h22
            have h30 : xv 30 = _ := h30
            have h19 : xv 19 = _ := h19
            simp only [putsOf, List.foldl_cons, List.foldl_nil, List.getD_cons_zero, List.getD_cons_succ, List.getD_nil, cond_true, cond_false, Act.put, List.setIfInBounds_toArray, List.set_cons_zero, List.set_cons_succ, h22, h30, h19] at hb
            clear h22
            clear h30
            clear h19
            subst hb
            rw [if_pos (by rfl)]
            go_wp2_with fail
            exact hK.out _ _ ⟨_, rfl, hS, rfl, AllP.same _⟩
          refine RelySteps.cons (RelyStep.mk [19, 31] [0, 1, 2, 3, 4, 5, 6, 7, 8, 9, 10, 12, 13, 14, 15, 16, 19, 20, 23, 24, 25, 26, 27, 28, 34, 35, 36, 37, 38, 39] rfl rfl rfl (fun xv wS hS hV bq hb K hK => ?_)) ?_
          · obtain ⟨h19, h31, _⟩ := hV
            have h19 : xv 19 = _ := h19
            have h31 : xv 31 = _ := h31
            simp only [putsOf, List.foldl_cons, List.foldl_nil, List.getD_cons_zero, List.getD_cons_succ, List.getD_nil, cond_true, cond_false, Act.put, List.setIfInBounds_toArray, List.set_cons_zero, List.set_cons_succ, h19, h31] at hb
            clear h19
            clear h31
            subst hb
            rw [if_pos (by rfl)]
            go_wp2_with fail
            exact hK.out _ _ ⟨_, rfl, hS, rfl, AllP.same _⟩
          refine RelySteps.cons (RelyStep.mk [32] [0, 1, 2, 3, 4, 5, 6, 7, 8, 9, 10, 11, 12, 13, 14, 15, 16, 17, 19, 20, 23, 26, 27, 28, 29] rfl rfl rfl (fun xv wS hS hV bq hb K hK => ?_)) ?_
          · obtain ⟨h32, _⟩ := hV
            have h32 : xv 32 = _ := h32
            simp only [putsOf, List.foldl_cons, List.foldl_nil, List.getD_cons_zero, List.getD_cons_succ, List.getD_nil, cond_true, cond_false, Act.put, List.setIfInBounds_toArray, List.set_cons_zero, List.set_cons_succ, h32] at hb
            clear h32
            subst hb
            rw [if_pos (by rfl)]
            go_wp2_with fail
            exact hK.out _ _ ⟨_, rfl, hS, rfl, AllP.same _⟩
          refine RelySteps.cons (RelyStep.mk [33] [0, 1, 2, 3, 4, 5, 6, 7, 8, 9, 10, 11, 12, 13, 14, 15, 16, 17, 18, 19, 20, 21, 22, 23, 24, 26, 27, 28, 29, 30, 33, 36, 37, 38, 39] rfl rfl rfl (fun xv wS hS hV bq hb K hK => ?_)) ?_
          · obtain ⟨h33, _⟩ := hV
            have h33 : xv 33 = _ := h33
            simp only [putsOf, List.foldl_cons, List.foldl_nil, List.getD_cons_zero, List.getD_cons_succ, List.getD_nil, cond_true, cond_false, Act.put, List.setIfInBounds_toArray, List.set_cons_zero, List.set_cons_succ, h33] at hb
            clear h33
            subst hb
            rw [if_pos (by rfl)]
            (have q1 := HL.out.below hS HL.out.lt; have c0 := (q1.cell 0).trans (show _ = some (Value.int .i64 z.op) from rfl); have c1 := (q1.cell 1).trans (show _ = some (Value.int .i64 z.a) from rfl); have c2 := (q1.cell 2).trans (show _ = some (Value.int .i64 z.b) from rfl); have c3 := (q1.cell 3).trans (show _ = some (Value.int .i64 z.c) from rfl); have c4 := (q1.cell 4).trans (show _ = some (Value.int .i64 z.d) from rfl); have c5 := (q1.cell 5).trans (show _ = some (Value.int .u64 (z.k : Int)) from rfl); have cl := q1.lt; clear q1)
            go_wp2_with fail
            exact hK.out _ _ ⟨_, rfl, hS, rfl, AllP.same _⟩
          refine RelySteps.cons (RelyStep.mk [34, 33] [0, 1, 2, 3, 4, 5, 6, 7, 8, 9, 10, 11, 12, 13, 14, 15, 16, 17, 18, 19, 20, 21, 22, 23, 24, 26, 27, 28, 29, 30, 33, 36, 39] rfl rfl rfl (fun xv wS hS hV bq hb K hK => ?_)) ?_
          · obtain ⟨h34, h33, _⟩ := hV
            have h34 : xv 34 = _ := h34
            have h33 : xv 33 = _ := h33
            simp only [putsOf, List.foldl_cons, List.foldl_nil, List.getD_cons_zero, List.getD_cons_succ, List.getD_nil, cond_true, cond_false, Act.put, List.setIfInBounds_toArray, List.set_cons_zero, List.set_cons_succ, h34, h33] at hb
            clear h34
            clear h33
            subst hb
            rw [if_pos (by rfl)]
            have HSS := Lib.hid hS
            clear hS
            go_wp2_with fail
            refine (HRI.out _).mono ?_
            rintro e w9 ⟨rfl, hb⟩
            exact hK.out _ _ ⟨_, rfl, HSS.out.trans (hb.mono HSS.out.size), rfl, AllP.of _ (fun j _ u h => tlV_all h)⟩
          refine RelySteps.cons (RelyStep.mk [33] [0, 1, 2, 3, 4, 5, 6, 7, 8, 9, 10, 11, 12, 13, 14, 15, 16, 17, 18, 19, 20, 21, 22, 23, 24, 26, 27, 28, 29, 30, 33, 34, 35, 38, 39] rfl rfl rfl (fun xv wS hS hV bq hb K hK => ?_)) ?_
          · obtain ⟨h33, _⟩ := hV
            have h33 : xv 33 = _ := h33
            simp only [putsOf, List.foldl_cons, List.foldl_nil, List.getD_cons_zero, List.getD_cons_succ, List.getD_nil, cond_true, cond_false, Act.put, List.setIfInBounds_toArray, List.set_cons_zero, List.set_cons_succ, h33] at hb
            clear h33
            subst hb
            rw [if_pos (by rfl)]
            (have q1 := HL.out.below hS HL.out.lt; have c0 := (q1.cell 0).trans (show _ = some (Value.int .i64 z.op) from rfl); have c1 := (q1.cell 1).trans (show _ = some (Value.int .i64 z.a) from rfl); have c2 := (q1.cell 2).trans (show _ = some (Value.int .i64 z.b) from rfl); have c3 := (q1.cell 3).trans (show _ = some (Value.int .i64 z.c) from rfl); have c4 := (q1.cell 4).trans (show _ = some (Value.int .i64 z.d) from rfl); have c5 := (q1.cell 5).trans (show _ = some (Value.int .u64 (z.k : Int)) from rfl); have cl := q1.lt; clear q1)
            go_wp2_with fail
            exact hK.out _ _ ⟨_, rfl, hS, rfl, AllP.same _⟩
          refine RelySteps.cons (RelyStep.mk [36, 33] [0, 1, 2, 3, 4, 5, 6, 7, 8, 9, 10, 11, 12, 13, 14, 15, 16, 17, 18, 19, 20, 21, 22, 23, 24, 26, 27, 28, 29, 30, 33, 35, 39] rfl rfl rfl (fun xv wS hS hV bq hb K hK => ?_)) ?_
          · obtain ⟨h36, h33, _⟩ := hV
            have h36 : xv 36 = _ := h36
            have h33 : xv 33 = _ := h33
            simp only [putsOf, List.foldl_cons, List.foldl_nil, List.getD_cons_zero, List.getD_cons_succ, List.getD_nil, cond_true, cond_false, Act.put, List.setIfInBounds_toArray, List.set_cons_zero, List.set_cons_succ, h36, h33] at hb
            clear h36
            clear h33
            subst hb
            rw [if_pos (by rfl)]
            have HSS := Lib.hid hS
            clear hS
            go_wp2_with fail
            refine (HRR.out _).mono ?_
            rintro e w9 ⟨rfl, hb⟩
            exact hK.out _ _ ⟨_, rfl, HSS.out.trans (hb.mono HSS.out.size), rfl, AllP.of _ (fun j _ u h => tlV_all h)⟩
          refine RelySteps.cons (RelyStep.mk [35, 37, 33] [0, 1, 2, 3, 4, 5, 6, 7, 8, 9, 10, 11, 12, 13, 14, 15, 16, 17, 18, 19, 20, 21, 22, 23, 24, 26, 27, 28, 29, 30, 33] rfl rfl rfl (fun xv wS hS hV bq hb K hK => ?_)) ?_
          · obtain ⟨h35, h37, h33, _⟩ := hV
            have h35 : xv 35 = _ := h35
            have h37 : xv 37 = _ := h37
            have h33 : xv 33 = _ := h33
            simp only [putsOf, List.foldl_cons, List.foldl_nil, List.getD_cons_zero, List.getD_cons_succ, List.getD_nil, cond_true, cond_false, Act.put, List.setIfInBounds_toArray, List.set_cons_zero, List.set_cons_succ, h35, h37, h33] at hb
            clear h35
            clear h37
            clear h33
            subst hb
            rw [if_pos (by rfl)]
            go_wp2_with fail
            exact hK.out _ _ ⟨_, rfl, hS, rfl, AllP.same _⟩
          refine RelySteps.cons (RelyStep.mk [33, 38] [0, 1, 2, 3, 4, 5, 6, 7, 8, 9, 10, 11, 12, 13, 14, 15, 16, 17, 18, 19, 20, 21, 22, 23, 24, 26, 27, 28, 29, 30, 33] rfl rfl rfl (fun xv wS hS hV bq hb K hK => ?_)) ?_
          · obtain ⟨h33, h38, _⟩ := hV
            have h33 : xv 33 = _ := h33
            have h38 : xv 38 = _ := h38
            simp only [putsOf, List.foldl_cons, List.foldl_nil, List.getD_cons_zero, List.getD_cons_succ, List.getD_nil, cond_true, cond_false, Act.put, List.setIfInBounds_toArray, List.set_cons_zero, List.set_cons_succ, h33, h38] at hb
            clear h33
            clear h38
            subst hb
            rw [if_pos (by rfl)]
            go_wp2_with fail
            exact hK.out _ _ ⟨_, rfl, hS, rfl, AllP.same _⟩
          refine RelySteps.cons (RelyStep.mk [39] [] rfl rfl rfl (fun xv wS hS hV bq hb K hK => ?_)) ?_
          · obtain ⟨h39, _⟩ := hV
            have h39 : xv 39 = _ := h39
            simp only [putsOf, List.foldl_cons, List.foldl_nil, List.getD_cons_zero, List.getD_cons_succ, List.getD_nil, cond_true, cond_false, Act.put, List.setIfInBounds_toArray, List.set_cons_zero, List.set_cons_succ, h39] at hb
            clear h39
            subst hb
            rw [if_pos (by rfl)]
            go_wp2_with fail
            exact hK.out _ _ ⟨_, rfl, hS, rfl, AllP.same _⟩
          exact RelySteps.nil
        case rE =>
          intro xv wE hS hV
          have h40 := hV 40 (by decide) (by decide)
          clear hV
          simp only [putsOf, List.foldl_cons, List.foldl_nil, List.getD_cons_zero, List.getD_cons_succ, List.getD_nil, cond_true, cond_false, Act.put, List.setIfInBounds_toArray, List.set_cons_zero, List.set_cons_succ]
          have h40 : xv 40 = _ := h40
          rw [h40]; clear h40
          generalize xv 0 = y0 at *
          generalize xv 1 = y1 at *
          generalize xv 2 = y2 at *
          generalize xv 3 = y3 at *
          generalize xv 4 = y4 at *
          generalize xv 5 = y5 at *
          generalize xv 6 = y6 at *
          generalize xv 7 = y7 at *
          generalize xv 8 = y8 at *
          generalize xv 9 = y9 at *
          generalize xv 10 = y10 at *
          generalize xv 11 = y11 at *
          generalize xv 12 = y12 at *
          generalize xv 13 = y13 at *
          generalize xv 14 = y14 at *
          generalize xv 15 = y15 at *
          generalize xv 16 = y16 at *
          generalize xv 17 = y17 at *
          generalize xv 18 = y18 at *
          generalize xv 19 = y19 at *
          generalize xv 20 = y20 at *
          generalize xv 21 = y21 at *
          generalize xv 22 = y22 at *
          generalize xv 23 = y23 at *
          generalize xv 24 = y24 at *
          generalize xv 25 = y25 at *
          generalize xv 26 = y26 at *
          generalize xv 27 = y27 at *
          generalize xv 28 = y28 at *
          generalize xv 29 = y29 at *
          generalize xv 30 = y30 at *
          generalize xv 31 = y31 at *
          generalize xv 32 = y32 at *
          generalize xv 33 = y33 at *
          generalize xv 34 = y34 at *
          generalize xv 35 = y35 at *
          generalize xv 36 = y36 at *
          generalize xv 37 = y37 at *
          generalize xv 38 = y38 at *
          generalize xv 39 = y39 at *
          have HS9 := Lib.hid hS
          clear hS
          go_wp2
          go_ret
          exact ⟨rfl, HB.out.trans (HS9.out.mono HB.out.size)⟩
      case true =>
        go_wp2_with fail
        refine wp_region_rely (fun q => Below wc.heap.size wc q) (tlV W.heap.size (nmB z.op) z false P17 true Q25 rb) [some 63, some 64, some 65, some 66, some 67, some 68, some 69, some 70, some 71, some 72, some 73, some 74, some 75, some 76, some 77, some 78, some 79, some 80, some 81, some 82, some 83, some 84, some 85, some 86, some 87, some 88, some 89, some 90, some 91, some 92, some 93, some 94, some 95, some 96, some 97, some 98, some 99, some 100, some 101, some 102, some 4] [[], [0], [1], [], [2, 3], [4], [5], [6, 5], [7, 5], [5], [9, 5], [10, 5], [11, 5], [12], [13, 12], [14, 12], [12, 15, 5], [8, 16, 5], [5, 17], [18], [19], [20, 19], [21, 19], [19], [23, 19], [24, 19], [25, 19], [26], [27, 26], [28, 26], [26, 29, 19], [22, 30, 19], [19, 31], [32], [33], [34, 33], [33], [36, 33], [35, 37, 33], [33, 38], [39]] [[], [0], [0, 1], [], [1, 2, 3], [1, 2, 3, 4], [4], [4, 6], [4, 6, 7], [4], [4, 9], [4, 9, 10], [4, 7, 10, 11], [11], [11, 13], [11, 13, 14], [4, 11, 14, 15], [4, 7, 8, 15, 16], [4, 8, 16, 17], [11, 17, 18], [18], [18, 20], [18, 20, 21], [18], [18, 23], [18, 23, 24], [18, 21, 24, 25], [25], [25, 27], [25, 27, 28], [18, 25, 28, 29], [18, 21, 22, 29, 30], [18, 22, 30, 31], [25, 31, 32], [32], [32, 34], [32], [32, 34, 36], [32, 34, 35, 36, 37], [32, 35, 37, 38], [0, 1, 2, 3, 4, 5, 6, 7, 8, 9, 10, 11, 12, 13, 14, 15, 16, 17, 18, 19, 20, 21, 22, 23, 24, 25, 26, 27, 28, 29, 30, 31, 32, 33, 34, 35, 36, 37, 38, 39]] [[2, 3, 4, 5, 6, 7, 8, 9, 10, 11, 12, 13, 14, 15, 16, 17, 18, 19, 20, 21, 22, 23, 24, 25, 26, 27, 28, 29, 30, 31, 32, 33, 34, 35, 36, 37, 38, 39], [3, 4, 5, 6, 7, 8, 9, 10, 11, 12, 13, 14, 15, 16, 17, 18, 19, 20, 21, 22, 23, 24, 25, 26, 27, 28, 29, 30, 31, 32, 33, 34, 35, 36, 37, 38, 39], [3, 6, 7, 8, 9, 10, 11, 12, 13, 14, 15, 16, 17, 18, 19, 20, 21, 22, 23, 24, 25, 26, 27, 28, 29, 30, 31, 32, 33, 34, 35, 36, 37, 38, 39], [0, 1, 2, 5, 6, 7, 8, 9, 10, 11, 12, 13, 14, 15, 16, 17, 18, 19, 20, 21, 22, 23, 24, 25, 26, 27, 28, 29, 30, 31, 32, 33, 34, 35, 36, 37, 38, 39], [6, 7, 8, 9, 10, 11, 12, 13, 14, 15, 16, 17, 18, 19, 20, 21, 22, 23, 24, 25, 26, 27, 28, 29, 30, 31, 32, 33, 34, 35, 36, 37, 38, 39], [13, 14, 15, 19, 20, 21, 22, 23, 24, 25, 26, 27, 28, 29, 30, 31, 32, 33, 34, 35, 36, 37, 38, 39], [0, 5, 8, 9, 10, 11, 12, 13, 14, 15, 16, 17, 18, 19, 20, 21, 22, 23, 24, 25, 26, 27, 28, 29, 30, 31, 32, 33, 34, 35, 36, 37, 38, 39], [0, 5, 9, 10, 11, 12, 13, 14, 15, 16, 17, 18, 19, 20, 21, 22, 23, 24, 25, 26, 27, 28, 29, 30, 31, 32, 33, 34, 35, 36, 37, 38, 39], [0, 5, 9, 10, 11, 13, 14, 15, 16, 18, 19, 20, 21, 22, 23, 24, 25, 26, 27, 28, 29, 30, 31, 32, 33, 34, 35, 36, 37, 38, 39], [0, 5, 6, 7, 8, 11, 12, 13, 14, 15, 16, 17, 18, 19, 20, 21, 22, 23, 24, 25, 26, 27, 28, 29, 30, 31, 32, 33, 34, 35, 36, 37, 38, 39], [0, 5, 6, 7, 8, 12, 13, 14, 15, 16, 17, 18, 19, 20, 21, 22, 23, 24, 25, 26, 27, 28, 29, 30, 31, 32, 33, 34, 35, 36, 37, 38, 39], [0, 5, 6, 7, 8, 13, 14, 15, 16, 17, 18, 19, 20, 21, 22, 23, 24, 25, 26, 27, 28, 29, 30, 31, 32, 33, 34, 35, 36, 37, 38, 39], [0, 5, 8, 17, 18, 20, 21, 22, 23, 24, 25, 26, 27, 28, 29, 30, 31, 32, 33, 34, 35, 36, 37, 38, 39], [0, 1, 2, 3, 5, 6, 8, 9, 12, 15, 16, 17, 18, 19, 20, 21, 22, 23, 24, 25, 26, 27, 28, 29, 30, 31, 32, 33, 34, 35, 36, 37, 38, 39], [0, 1, 2, 3, 5, 6, 8, 9, 12, 16, 17, 18, 19, 20, 21, 22, 23, 24, 25, 26, 27, 28, 29, 30, 31, 32, 33, 34, 35, 36, 37, 38, 39], [0, 1, 2, 3, 5, 6, 8, 9, 12, 17, 18, 19, 20, 21, 22, 23, 24, 25, 26, 27, 28, 29, 30, 31, 32, 33, 34, 35, 36, 37, 38, 39], [0, 5, 6, 8, 9, 12, 18, 19, 20, 21, 22, 23, 24, 25, 26, 27, 28, 29, 30, 31, 32, 33, 34, 35, 36, 37, 38, 39], [0, 5, 9, 10, 12, 13, 19, 20, 21, 22, 23, 24, 25, 26, 27, 28, 29, 30, 31, 32, 33, 34, 35, 36, 37, 38, 39], [0, 5, 6, 9, 10, 11, 12, 13, 14, 20, 21, 22, 23, 24, 25, 26, 27, 28, 29, 30, 31, 32, 33, 34, 35, 36, 37, 38, 39], [0, 1, 2, 3, 5, 6, 9, 12, 13, 14, 15, 27, 28, 29, 33, 34, 35, 36, 37, 38, 39], [0, 1, 2, 3, 4, 5, 6, 7, 8, 9, 10, 12, 13, 14, 15, 16, 19, 22, 23, 24, 25, 26, 27, 28, 29, 30, 31, 32, 33, 34, 35, 36, 37, 38, 39], [0, 1, 2, 3, 4, 5, 6, 7, 8, 9, 10, 12, 13, 14, 15, 16, 19, 23, 24, 25, 26, 27, 28, 29, 30, 31, 32, 33, 34, 35, 36, 37, 38, 39], [0, 1, 2, 3, 4, 5, 6, 7, 8, 9, 10, 12, 13, 14, 15, 16, 19, 23, 24, 25, 27, 28, 29, 30, 32, 33, 34, 35, 36, 37, 38, 39], [0, 1, 2, 3, 4, 5, 6, 7, 8, 9, 10, 12, 13, 14, 15, 16, 19, 20, 21, 22, 25, 26, 27, 28, 29, 30, 31, 32, 33, 34, 35, 36, 37, 38, 39], [0, 1, 2, 3, 4, 5, 6, 7, 8, 9, 10, 12, 13, 14, 15, 16, 19, 20, 21, 22, 26, 27, 28, 29, 30, 31, 32, 33, 34, 35, 36, 37, 38, 39], [0, 1, 2, 3, 4, 5, 6, 7, 8, 9, 10, 12, 13, 14, 15, 16, 19, 20, 21, 22, 27, 28, 29, 30, 31, 32, 33, 34, 35, 36, 37, 38, 39], [0, 1, 2, 3, 4, 5, 6, 7, 8, 9, 10, 12, 13, 14, 15, 16, 19, 22, 31, 32, 34, 35, 36, 37, 38, 39], [0, 1, 2, 3, 4, 5, 6, 7, 8, 9, 10, 11, 12, 13, 14, 15, 16, 17, 19, 20, 22, 23, 26, 29, 30, 31, 32, 33, 34, 35, 36, 37, 38, 39], [0, 1, 2, 3, 4, 5, 6, 7, 8, 9, 10, 11, 12, 13, 14, 15, 16, 17, 19, 20, 22, 23, 26, 30, 31, 32, 33, 34, 35, 36, 37, 38, 39], [0, 1, 2, 3, 4, 5, 6, 7, 8, 9, 10, 11, 12, 13, 14, 15, 16, 17, 19, 20, 22, 23, 26, 31, 32, 33, 34, 35, 36, 37, 38, 39], [0, 1, 2, 3, 4, 5, 6, 7, 8, 9, 10, 12, 13, 14, 15, 16, 19, 20, 22, 23, 26, 32, 33, 34, 35, 36, 37, 38, 39], [0, 1, 2, 3, 4, 5, 6, 7, 8, 9, 10, 12, 13, 14, 15, 16, 19, 23, 24, 26, 27, 33, 34, 35, 36, 37, 38, 39], [0, 1, 2, 3, 4, 5, 6, 7, 8, 9, 10, 12, 13, 14, 15, 16, 19, 20, 23, 24, 25, 26, 27, 28, 34, 35, 36, 37, 38, 39], [0, 1, 2, 3, 4, 5, 6, 7, 8, 9, 10, 11, 12, 13, 14, 15, 16, 17, 19, 20, 23, 26, 27, 28, 29], [0, 1, 2, 3, 4, 5, 6, 7, 8, 9, 10, 11, 12, 13, 14, 15, 16, 17, 18, 19, 20, 21, 22, 23, 24, 26, 27, 28, 29, 30, 33, 36, 37, 38, 39], [0, 1, 2, 3, 4, 5, 6, 7, 8, 9, 10, 11, 12, 13, 14, 15, 16, 17, 18, 19, 20, 21, 22, 23, 24, 26, 27, 28, 29, 30, 33, 36, 39], [0, 1, 2, 3, 4, 5, 6, 7, 8, 9, 10, 11, 12, 13, 14, 15, 16, 17, 18, 19, 20, 21, 22, 23, 24, 26, 27, 28, 29, 30, 33, 34, 35, 38, 39], [0, 1, 2, 3, 4, 5, 6, 7, 8, 9, 10, 11, 12, 13, 14, 15, 16, 17, 18, 19, 20, 21, 22, 23, 24, 26, 27, 28, 29, 30, 33, 35, 39], [0, 1, 2, 3, 4, 5, 6, 7, 8, 9, 10, 11, 12, 13, 14, 15, 16, 17, 18, 19, 20, 21, 22, 23, 24, 26, 27, 28, 29, 30, 33], [0, 1, 2, 3, 4, 5, 6, 7, 8, 9, 10, 11, 12, 13, 14, 15, 16, 17, 18, 19, 20, 21, 22, 23, 24, 26, 27, 28, 29, 30, 33], []] [0, 1, 2, 3, 4, 5, 6, 7, 8, 9, 10, 11, 12, 13, 14, 15, 16, 17, 18, 19, 20, 21, 22, 23, 24, 25, 26, 27, 28, 29, 30, 31, 32, 33, 34, 35, 36, 37, 38, 39, 40] 41 (by kernel_rfl) (by kernel_rfl) (by kernel_rfl) (by kernel_rfl) ?rS (fun j h1 h2 => absurd (Nat.lt_of_lt_of_le h1 (Nat.le_trans (by decide) h2)) (Nat.lt_irrefl _)) ?rT ?rE
        case rS => exact below_drewN (Below.refl _ _) 1
        case rT =>
          refine RelySteps.cons (RelyStep.mk [] [2, 3, 4, 5, 6, 7, 8, 9, 10, 11, 12, 13, 14, 15, 16, 17, 18, 19, 20, 21, 22, 23, 24, 25, 26, 27, 28, 29, 30, 31, 32, 33, 34, 35, 36, 37, 38, 39] rfl rfl rfl (fun xv wS hS hV bq hb K hK => ?_)) ?_
          · clear hV
            simp only [putsOf, List.foldl_cons, List.foldl_nil, List.getD_cons_zero, List.getD_cons_succ, List.getD_nil, cond_true, cond_false, Act.put, List.setIfInBounds_toArray, List.set_cons_zero, List.set_cons_succ] at hb
            subst hb
            rw [if_pos (by rfl)]
            go_wp2_with fail
            exact hK.out _ _ ⟨_, rfl, hS, rfl, AllP.same _⟩
          refine RelySteps.cons (RelyStep.mk [0] [3, 4, 5, 6, 7, 8, 9, 10, 11, 12, 13, 14, 15, 16, 17, 18, 19, 20, 21, 22, 23, 24, 25, 26, 27, 28, 29, 30, 31, 32, 33, 34, 35, 36, 37, 38, 39] rfl rfl rfl (fun xv wS hS hV bq hb K hK => ?_)) ?_
          · obtain ⟨h0, _⟩ := hV
            have h0 : xv 0 = _ := h0
            simp only [putsOf, List.foldl_cons, List.foldl_nil, List.getD_cons_zero, List.getD_cons_succ, List.getD_nil, cond_true, cond_false, Act.put, List.setIfInBounds_toArray, List.set_cons_zero, List.set_cons_succ, h0] at hb
            clear h0
            subst hb
            rw [if_pos (by rfl)]
            (have q1 := HL.out.below hS HL.out.lt; have c0 := (q1.cell 0).trans (show _ = some (Value.int .i64 z.op) from rfl); have c1 := (q1.cell 1).trans (show _ = some (Value.int .i64 z.a) from rfl); have c2 := (q1.cell 2).trans (show _ = some (Value.int .i64 z.b) from rfl); have c3 := (q1.cell 3).trans (show _ = some (Value.int .i64 z.c) from rfl); have c4 := (q1.cell 4).trans (show _ = some (Value.int .i64 z.d) from rfl); have c5 := (q1.cell 5).trans (show _ = some (Value.int .u64 (z.k : Int)) from rfl); have cl := q1.lt; clear q1)
            go_wp2_with fail
            exact hK.out _ _ ⟨_, rfl, hS, rfl, AllP.same _⟩
          refine RelySteps.cons (RelyStep.mk [1] [3, 6, 7, 8, 9, 10, 11, 12, 13, 14, 15, 16, 17, 18, 19, 20, 21, 22, 23, 24, 25, 26, 27, 28, 29, 30, 31, 32, 33, 34, 35, 36, 37, 38, 39] rfl rfl rfl (fun xv wS hS hV bq hb K hK => ?_)) ?_
          · obtain ⟨h1, _⟩ := hV
            have h1 : xv 1 = _ := h1
            simp only [putsOf, List.foldl_cons, List.foldl_nil, List.getD_cons_zero, List.getD_cons_succ, List.getD_nil, cond_true, cond_false, Act.put, List.setIfInBounds_toArray, List.set_cons_zero, List.set_cons_succ, h1] at hb
            clear h1
            subst hb
            rw [if_pos (by rfl)]
            have HSS := Lib.hid hS
            clear hS
            go_wp2_with fail
            refine (name_any z.op _ (HN.out.later (HB.out.trans (HSS.out.mono HB.out.size)) hgl)).mono ?_
            rintro e w9 ⟨rfl, rfl⟩
            exact hK.out _ _ ⟨_, rfl, HSS.out, rfl, AllP.same _⟩
          refine RelySteps.cons (RelyStep.mk [] [0, 1, 2, 5, 6, 7, 8, 9, 10, 11, 12, 13, 14, 15, 16, 17, 18, 19, 20, 21, 22, 23, 24, 25, 26, 27, 28, 29, 30, 31, 32, 33, 34, 35, 36, 37, 38, 39] rfl rfl rfl (fun xv wS hS hV bq hb K hK => ?_)) ?_
          · clear hV
            simp only [putsOf, List.foldl_cons, List.foldl_nil, List.getD_cons_zero, List.getD_cons_succ, List.getD_nil, cond_true, cond_false, Act.put, List.setIfInBounds_toArray, List.set_cons_zero, List.set_cons_succ] at hb
            subst hb
            rw [if_pos (by rfl)]
            go_wp2_with fail
            exact hK.out _ _ ⟨_, rfl, hS, rfl, AllP.same _⟩
          refine RelySteps.cons (RelyStep.mk [2, 3] [6, 7, 8, 9, 10, 11, 12, 13, 14, 15, 16, 17, 18, 19, 20, 21, 22, 23, 24, 25, 26, 27, 28, 29, 30, 31, 32, 33, 34, 35, 36, 37, 38, 39] rfl rfl rfl (fun xv wS hS hV bq hb K hK => ?_)) ?_
          · obtain ⟨h2, h3, _⟩ := hV
            have h2 : xv 2 = _ := h2
            have h3 : xv 3 = _ := h3
            simp only [putsOf, List.foldl_cons, List.foldl_nil, List.getD_cons_zero, List.getD_cons_succ, List.getD_nil, cond_true, cond_false, Act.put, List.setIfInBounds_toArray, List.set_cons_zero, List.set_cons_succ, h2, h3] at hb
            clear h2
            clear h3
            subst hb
            rw [if_pos (by rfl)]
            go_wp2_with fail
            exact hK.out _ _ ⟨_, rfl, hS, rfl, AllP.same _⟩
          refine RelySteps.cons (RelyStep.mk [4] [13, 14, 15, 19, 20, 21, 22, 23, 24, 25, 26, 27, 28, 29, 30, 31, 32, 33, 34, 35, 36, 37, 38, 39] rfl rfl rfl (fun xv wS hS hV bq hb K hK => ?_)) ?_
          · obtain ⟨h4, _⟩ := hV
            have h4 : xv 4 = _ := h4
            simp only [putsOf, List.foldl_cons, List.foldl_nil, List.getD_cons_zero, List.getD_cons_succ, List.getD_nil, cond_true, cond_false, Act.put, List.setIfInBounds_toArray, List.set_cons_zero, List.set_cons_succ, h4] at hb
            clear h4
            subst hb
            rw [if_pos (by rfl)]
            go_wp2_with fail
            exact hK.out _ _ ⟨_, rfl, hS, rfl, AllP.same _⟩
          refine RelySteps.cons (RelyStep.mk [5] [0, 5, 8, 9, 10, 11, 12, 13, 14, 15, 16, 17, 18, 19, 20, 21, 22, 23, 24, 25, 26, 27, 28, 29, 30, 31, 32, 33, 34, 35, 36, 37, 38, 39] rfl rfl rfl (fun xv wS hS hV bq hb K hK => ?_)) ?_
          · obtain ⟨h5, _⟩ := hV
            have h5 : xv 5 = _ := h5
            simp only [putsOf, List.foldl_cons, List.foldl_nil, List.getD_cons_zero, List.getD_cons_succ, List.getD_nil, cond_true, cond_false, Act.put, List.setIfInBounds_toArray, List.set_cons_zero, List.set_cons_succ, h5] at hb
            clear h5
            subst hb
            rw [if_pos (by rfl)]
            go_wp2_with fail
            exact hK.out _ _ ⟨_, rfl, hS, rfl, AllP.same _⟩
          refine RelySteps.cons (RelyStep.mk [6, 5] [0, 5, 9, 10, 11, 12, 13, 14, 15, 16, 17, 18, 19, 20, 21, 22, 23, 24, 25, 26, 27, 28, 29, 30, 31, 32, 33, 34, 35, 36, 37, 38, 39] rfl rfl rfl (fun xv wS hS hV bq hb K hK => ?_)) ?_
          · obtain ⟨h6, h5, _⟩ := hV
            have h6 : xv 6 = _ := h6
            have h5 : xv 5 = _ := h5
            simp only [putsOf, List.foldl_cons, List.foldl_nil, List.getD_cons_zero, List.getD_cons_succ, List.getD_nil, cond_true, cond_false, Act.put, List.setIfInBounds_toArray, List.set_cons_zero, List.set_cons_succ, h6, h5] at hb
            clear h6
            clear h5
            subst hb
            rw [if_pos (by rfl)]
            (have q1 := HL.out.below hS HL.out.lt; have c0 := (q1.cell 0).trans (show _ = some (Value.int .i64 z.op) from rfl); have c1 := (q1.cell 1).trans (show _ = some (Value.int .i64 z.a) from rfl); have c2 := (q1.cell 2).trans (show _ = some (Value.int .i64 z.b) from rfl); have c3 := (q1.cell 3).trans (show _ = some (Value.int .i64 z.c) from rfl); have c4 := (q1.cell 4).trans (show _ = some (Value.int .i64 z.d) from rfl); have c5 := (q1.cell 5).trans (show _ = some (Value.int .u64 (z.k : Int)) from rfl); have cl := q1.lt; clear q1)
            go_wp2_with fail
            exact hK.out _ _ ⟨_, rfl, hS, rfl, AllP.same _⟩
          refine RelySteps.cons (RelyStep.mk [7, 5] [0, 5, 9, 10, 11, 13, 14, 15, 16, 18, 19, 20, 21, 22, 23, 24, 25, 26, 27, 28, 29, 30, 31, 32, 33, 34, 35, 36, 37, 38, 39] rfl rfl rfl (fun xv wS hS hV bq hb K hK => ?_)) ?_
          · obtain ⟨h7, h5, _⟩ := hV
            have h7 : xv 7 = _ := h7
            have h5 : xv 5 = _ := h5
            simp only [putsOf, List.foldl_cons, List.foldl_nil, List.getD_cons_zero, List.getD_cons_succ, List.getD_nil, cond_true, cond_false, Act.put, List.setIfInBounds_toArray, List.set_cons_zero, List.set_cons_succ, h7, h5] at hb
            clear h7
            clear h5
            subst hb
            rw [if_pos (by rfl)]
            have HSS := Lib.hid hS
            clear hS
            go_wp2_with fail
            refine (HPL.out _).mono ?_
            rintro e w9 ⟨rfl, rfl⟩
            exact hK.out _ _ ⟨_, rfl, HSS.out, rfl, AllP.same _⟩
          refine RelySteps.cons (RelyStep.mk [5] [0, 5, 6, 7, 8, 11, 12, 13, 14, 15, 16, 17, 18, 19, 20, 21, 22, 23, 24, 25, 26, 27, 28, 29, 30, 31, 32, 33, 34, 35, 36, 37, 38, 39] rfl rfl rfl (fun xv wS hS hV bq hb K hK => ?_)) ?_
          · obtain ⟨h5, _⟩ := hV
            have h5 : xv 5 = _ := h5
            simp only [putsOf, List.foldl_cons, List.foldl_nil, List.getD_cons_zero, List.getD_cons_succ, List.getD_nil, cond_true, cond_false, Act.put, List.setIfInBounds_toArray, List.set_cons_zero, List.set_cons_succ, h5] at hb
            clear h5
            subst hb
            rw [if_pos (by rfl)]
            go_wp2_with fail
            exact hK.out _ _ ⟨_, rfl, hS, rfl, AllP.same _⟩
          refine RelySteps.cons (RelyStep.mk [9, 5] [0, 5, 6, 7, 8, 12, 13, 14, 15, 16, 17, 18, 19, 20, 21, 22, 23, 24, 25, 26, 27, 28, 29, 30, 31, 32, 33, 34, 35, 36, 37, 38, 39] rfl rfl rfl (fun xv wS hS hV bq hb K hK => ?_)) ?_
          · obtain ⟨h9, h5, _⟩ := hV
            have h9 : xv 9 = _ := h9
            have h5 : xv 5 = _ := h5
            simp only [putsOf, List.foldl_cons, List.foldl_nil, List.getD_cons_zero, List.getD_cons_succ, List.getD_nil, cond_true, cond_false, Act.put, List.setIfInBounds_toArray, List.set_cons_zero, List.set_cons_succ, h9, h5] at hb
            clear h9
            clear h5
            subst hb
            rw [if_pos (by rfl)]
            (have q1 := HL.out.below hS HL.out.lt; have c0 := (q1.cell 0).trans (show _ = some (Value.int .i64 z.op) from rfl); have c1 := (q1.cell 1).trans (show _ = some (Value.int .i64 z.a) from rfl); have c2 := (q1.cell 2).trans (show _ = some (Value.int .i64 z.b) from rfl); have c3 := (q1.cell 3).trans (show _ = some (Value.int .i64 z.c) from rfl); have c4 := (q1.cell 4).trans (show _ = some (Value.int .i64 z.d) from rfl); have c5 := (q1.cell 5).trans (show _ = some (Value.int .u64 (z.k : Int)) from rfl); have cl := q1.lt; clear q1)
            go_wp2_with fail
            exact hK.out _ _ ⟨_, rfl, hS, rfl, AllP.same _⟩
          refine RelySteps.cons (RelyStep.mk [10, 5] [0, 5, 6, 7, 8, 13, 14, 15, 16, 17, 18, 19, 20, 21, 22, 23, 24, 25, 26, 27, 28, 29, 30, 31, 32, 33, 34, 35, 36, 37, 38, 39] rfl rfl rfl (fun xv wS hS hV bq hb K hK => ?_)) ?_
          · obtain ⟨h10, h5, _⟩ := hV
            have h10 : xv 10 = _ := h10
            have h5 : xv 5 = _ := h5
            simp only [putsOf, List.foldl_cons, List.foldl_nil, List.getD_cons_zero, List.getD_cons_succ, List.getD_nil, cond_true, cond_false, Act.put, List.setIfInBounds_toArray, List.set_cons_zero, List.set_cons_succ, h10, h5] at hb
            clear h10
            clear h5
            subst hb
            rw [if_pos (by rfl)]
            go_wp2_with fail
            exact hK.out _ _ ⟨_, rfl, hS, rfl, AllP.same _⟩
          refine RelySteps.cons (RelyStep.mk [11, 5] [0, 5, 8, 17, 18, 20, 21, 22, 23, 24, 25, 26, 27, 28, 29, 30, 31, 32, 33, 34, 35, 36, 37, 38, 39] rfl rfl rfl (fun xv wS hS hV bq hb K hK => ?_)) ?_
          · obtain ⟨h11, h5, _⟩ := hV
            have h11 : xv 11 = _ := h11
            have h5 : xv 5 = _ := h5
            simp only [putsOf, List.foldl_cons, List.foldl_nil, List.getD_cons_zero, List.getD_cons_succ, List.getD_nil, cond_true, cond_false, Act.put, List.setIfInBounds_toArray, List.set_cons_zero, List.set_cons_succ, h11, h5] at hb
            clear h11
            clear h5
            subst hb
            rw [if_pos (by rfl)]
            go_wp2_with fail
            exact hK.out _ _ ⟨_, rfl, hS, rfl, AllP.same _⟩
          refine RelySteps.cons (RelyStep.mk [12] [0, 1, 2, 3, 5, 6, 8, 9, 12, 15, 16, 17, 18, 19, 20, 21, 22, 23, 24, 25, 26, 27, 28, 29, 30, 31, 32, 33, 34, 35, 36, 37, 38, 39] rfl rfl rfl (fun xv wS hS hV bq hb K hK => ?_)) ?_
          · obtain ⟨h12, _⟩ := hV
            have h12 : xv 12 = _ := h12
            simp only [putsOf, List.foldl_cons, List.foldl_nil, List.getD_cons_zero, List.getD_cons_succ, List.getD_nil, cond_true, cond_false, Act.put, List.setIfInBounds_toArray, List.set_cons_zero, List.set_cons_succ, h12] at hb
            clear h12
            subst hb
            first
              | (rw [if_pos (by rfl)]
                 go_wp2_with fail
                 exact hK.out _ _ ⟨_, rfl, hS, rfl, AllP.same _⟩)
              | (refine not_wanted (by rfl) ?_
                 exact hK.out _ _ ⟨undef, rfl, hS, rfl, AllP.same _⟩)
          refine RelySteps.cons (RelyStep.mk [13, 12] [0, 1, 2, 3, 5, 6, 8, 9, 12, 16, 17, 18, 19, 20, 21, 22, 23, 24, 25, 26, 27, 28, 29, 30, 31, 32, 33, 34, 35, 36, 37, 38, 39] rfl rfl rfl (fun xv wS hS hV bq hb K hK => ?_)) ?_
          · obtain ⟨h13, h12, _⟩ := hV
            have h13 : xv 13 = _ := h13
            have h12 : xv 12 = _ := h12
            simp only [putsOf, List.foldl_cons, List.foldl_nil, List.getD_cons_zero, List.getD_cons_succ, List.getD_nil, cond_true, cond_false, Act.put, List.setIfInBounds_toArray, List.set_cons_zero, List.set_cons_succ, h13, h12] at hb
            clear h13
            clear h12
            subst hb
            first
              | (rw [if_pos (by rfl)]
                 have q1 := HL.out.below hS HL.out.lt
                 have c0 := (q1.cell 0).trans (show _ = some (Value.int .i64 z.op) from rfl)
                 have c1 := (q1.cell 1).trans (show _ = some (Value.int .i64 z.a) from rfl)
                 have c2 := (q1.cell 2).trans (show _ = some (Value.int .i64 z.b) from rfl)
                 have c3 := (q1.cell 3).trans (show _ = some (Value.int .i64 z.c) from rfl)
                 have c4 := (q1.cell 4).trans (show _ = some (Value.int .i64 z.d) from rfl)
                 have c5 := (q1.cell 5).trans (show _ = some (Value.int .u64 (z.k : Int)) from rfl)
                 have cl := q1.lt
                 clear q1
                 go_wp2_with fail
                 exact hK.out _ _ ⟨_, rfl, hS, rfl, AllP.same _⟩)
              | (refine not_wanted (by rfl) ?_
                 exact hK.out _ _ ⟨undef, rfl, hS, rfl, AllP.same _⟩)
          refine RelySteps.cons (RelyStep.mk [14, 12] [0, 1, 2, 3, 5, 6, 8, 9, 12, 17, 18, 19, 20, 21, 22, 23, 24, 25, 26, 27, 28, 29, 30, 31, 32, 33, 34, 35, 36, 37, 38, 39] rfl rfl rfl (fun xv wS hS hV bq hb K hK => ?_)) ?_
          · obtain ⟨h14, h12, _⟩ := hV
            have h14 : xv 14 = _ := h14
            have h12 : xv 12 = _ := h12
            simp only [putsOf, List.foldl_cons, List.foldl_nil, List.getD_cons_zero, List.getD_cons_succ, List.getD_nil, cond_true, cond_false, Act.put, List.setIfInBounds_toArray, List.set_cons_zero, List.set_cons_succ, h14, h12] at hb
            clear h14
            clear h12
            subst hb
            first
              | (rw [if_pos (by rfl)]
                 go_wp2_with fail
                 exact hK.out _ _ ⟨_, rfl, hS, rfl, AllP.same _⟩)
              | (refine not_wanted (by rfl) ?_
                 exact hK.out _ _ ⟨undef, rfl, hS, rfl, AllP.same _⟩)
          refine RelySteps.cons (RelyStep.mk [12, 15, 5] [0, 5, 6, 8, 9, 12, 18, 19, 20, 21, 22, 23, 24, 25, 26, 27, 28, 29, 30, 31, 32, 33, 34, 35, 36, 37, 38, 39] rfl rfl rfl (fun xv wS hS hV bq hb K hK => ?_)) ?_
          · obtain ⟨h12, h15, h5, _⟩ := hV
            have h12 : xv 12 = _ := h12
            have h15 : xv 15 = _ := h15
            have h5 : xv 5 = _ := h5
            simp only [putsOf, List.foldl_cons, List.foldl_nil, List.getD_cons_zero, List.getD_cons_succ, List.getD_nil, cond_true, cond_false, Act.put, List.setIfInBounds_toArray, List.set_cons_zero, List.set_cons_succ, h12, h15, h5] at hb
            clear h12
            clear h15
            clear h5
            subst hb
            rw [if_pos (by rfl)]
            go_wp2_with fail
            exact hK.out _ _ ⟨_, rfl, hS, rfl, AllP.same _⟩
          refine RelySteps.cons (RelyStep.mk [8, 16, 5] [0, 5, 9, 10, 12, 13, 19, 20, 21, 22, 23, 24, 25, 26, 27, 28, 29, 30, 31, 32, 33, 34, 35, 36, 37, 38, 39] rfl rfl rfl (fun xv wS hS hV bq hb K hK => ?_)) ?_
          · obtain ⟨h8, h16, h5, _⟩ := hV
            have h8 : xv 8 = _ := h8
            have h16 : xv 16 = _ := h16
            have h5 : xv 5 = _ := h5
            simp only [putsOf, List.foldl_cons, List.foldl_nil, List.getD_cons_zero, List.getD_cons_succ, List.getD_nil, cond_true, cond_false, Act.put, List.setIfInBounds_toArray, List.set_cons_zero, List.set_cons_succ, h8, h16, h5] at hb
            clear h8
            clear h16
            clear h5
            subst hb
            rw [if_pos (by rfl)]
            go_wp2_with fail
            exact hK.out _ _ ⟨_, rfl, hS, rfl, AllP.same _⟩
          refine RelySteps.cons (RelyStep.mk [5, 17] [0, 5, 6, 9, 10, 11, 12, 13, 14, 20, 21, 22, 23, 24, 25, 26, 27, 28, 29, 30, 31, 32, 33, 34, 35, 36, 37, 38, 39] rfl rfl rfl (fun xv wS hS hV bq hb K hK => ?_)) ?_
          · obtain ⟨h5, h17, _⟩ := hV
            have h5 : xv 5 = _ := h5
            have h17 : xv 17 = _ := h17
            simp only [putsOf, List.foldl_cons, List.foldl_nil, List.getD_cons_zero, List.getD_cons_succ, List.getD_nil, cond_true, cond_false, Act.put, List.setIfInBounds_toArray, List.set_cons_zero, List.set_cons_succ, h5, h17] at hb
            clear h5
            clear h17
            subst hb
            rw [if_pos (by rfl)]
            go_wp2_with fail
            exact hK.out _ _ ⟨_, rfl, hS, rfl, AllP.same _⟩
          refine RelySteps.cons (RelyStep.mk [18] [0, 1, 2, 3, 5, 6, 9, 12, 13, 14, 15, 27, 28, 29, 33, 34, 35, 36, 37, 38, 39] rfl rfl rfl (fun xv wS hS hV bq hb K hK => ?_)) ?_
          · obtain ⟨h18, _⟩ := hV
            have h18 : xv 18 = _ := h18
            simp only [putsOf, List.foldl_cons, List.foldl_nil, List.getD_cons_zero, List.getD_cons_succ, List.getD_nil, cond_true, cond_false, Act.put, List.setIfInBounds_toArray, List.set_cons_zero, List.set_cons_succ, h18] at hb
            clear h18
            subst hb
            rw [if_pos (by rfl)]
            go_wp2_with fail
            exact hK.out _ _ ⟨_, rfl, hS, rfl, AllP.same _⟩
          refine RelySteps.cons (RelyStep.mk [19] [0, 1, 2, 3, 4, 5, 6, 7, 8, 9, 10, 12, 13, 14, 15, 16, 19, 22, 23, 24, 25, 26, 27, 28, 29, 30, 31, 32, 33, 34, 35, 36, 37, 38, 39] rfl rfl rfl (fun xv wS hS hV bq hb K hK => ?_)) ?_
          · obtain ⟨h19, _⟩ := hV
            have h19 : xv 19 = _ := h19
            simp only [putsOf, List.foldl_cons, List.foldl_nil, List.getD_cons_zero, List.getD_cons_succ, List.getD_nil, cond_true, cond_false, Act.put, List.setIfInBounds_toArray, List.set_cons_zero, List.set_cons_succ, h19] at hb
            clear h19
            subst hb
            rw [if_pos (by rfl)]
            go_wp2_with fail
            exact hK.out _ _ ⟨_, rfl, hS, rfl, AllP.same _⟩
          refine RelySteps.cons (RelyStep.mk [20, 19] [0, 1, 2, 3, 4, 5, 6, 7, 8, 9, 10, 12, 13, 14, 15, 16, 19, 23, 24, 25, 26, 27, 28, 29, 30, 31, 32, 33, 34, 35, 36, 37, 38, 39] rfl rfl rfl (fun xv wS hS hV bq hb K hK => ?_)) ?_
          · obtain ⟨h20, h19, _⟩ := hV
            have h20 : xv 20 = _ := h20
            have h19 : xv 19 = _ := h19
            simp only [putsOf, List.foldl_cons, List.foldl_nil, List.getD_cons_zero, List.getD_cons_succ, List.getD_nil, cond_true, cond_false, Act.put, List.setIfInBounds_toArray, List.set_cons_zero, List.set_cons_succ, h20, h19] at hb
            clear h20
            clear h19
            subst hb
            rw [if_pos (by rfl)]
            (have q1 := HL.out.below hS HL.out.lt; have c0 := (q1.cell 0).trans (show _ = some (Value.int .i64 z.op) from rfl); have c1 := (q1.cell 1).trans (show _ = some (Value.int .i64 z.a) from rfl); have c2 := (q1.cell 2).trans (show _ = some (Value.int .i64 z.b) from rfl); have c3 := (q1.cell 3).trans (show _ = some (Value.int .i64 z.c) from rfl); have c4 := (q1.cell 4).trans (show _ = some (Value.int .i64 z.d) from rfl); have c5 := (q1.cell 5).trans (show _ = some (Value.int .u64 (z.k : Int)) from rfl); have cl := q1.lt; clear q1)
            go_wp2_with fail
            exact hK.out _ _ ⟨_, rfl, hS, rfl, AllP.same _⟩
          refine RelySteps.cons (RelyStep.mk [21, 19] [0, 1, 2, 3, 4, 5, 6, 7, 8, 9, 10, 12, 13, 14, 15, 16, 19, 23, 24, 25, 27, 28, 29, 30, 32, 33, 34, 35, 36, 37, 38, 39] rfl rfl rfl (fun xv wS hS hV bq hb K hK => ?_)) ?_
          · obtain ⟨h21, h19, _⟩ := hV
            have h21 : xv 21 = _ := h21
            have h19 : xv 19 = _ := h19
            simp only [putsOf, List.foldl_cons, List.foldl_nil, List.getD_cons_zero, List.getD_cons_succ, List.getD_nil, cond_true, cond_false, Act.put, List.setIfInBounds_toArray, List.set_cons_zero, List.set_cons_succ, h21, h19] at hb
            clear h21
            clear h19
            subst hb
            rw [if_pos (by rfl)]
            have HSS := Lib.hid hS
            clear hS
            go_wp2_with fail
            refine (HSE.out _).mono ?_
            rintro e w9 ⟨rfl, rfl⟩
            exact hK.out _ _ ⟨_, rfl, HSS.out, rfl, AllP.same _⟩
          refine RelySteps.cons (RelyStep.mk [19] [0, 1, 2, 3, 4, 5, 6, 7, 8, 9, 10, 12, 13, 14, 15, 16, 19, 20, 21, 22, 25, 26, 27, 28, 29, 30, 31, 32, 33, 34, 35, 36, 37, 38, 39] rfl rfl rfl (fun xv wS hS hV bq hb K hK => ?_)) ?_
          · obtain ⟨h19, _⟩ := hV
            have h19 : xv 19 = _ := h19
            simp only [putsOf, List.foldl_cons, List.foldl_nil, List.getD_cons_zero, List.getD_cons_succ, List.getD_nil, cond_true, cond_false, Act.put, List.setIfInBounds_toArray, List.set_cons_zero, List.set_cons_succ, h19] at hb
            clear h19
            subst hb
            rw [if_pos (by rfl)]
            go_wp2_with fail
            exact hK.out _ _ ⟨_, rfl, hS, rfl, AllP.same _⟩
          refine RelySteps.cons (RelyStep.mk [23, 19] [0, 1, 2, 3, 4, 5, 6, 7, 8, 9, 10, 12, 13, 14, 15, 16, 19, 20, 21, 22, 26, 27, 28, 29, 30, 31, 32, 33, 34, 35, 36, 37, 38, 39] rfl rfl rfl (fun xv wS hS hV bq hb K hK => ?_)) ?_
          · obtain ⟨h23, h19, _⟩ := hV
            have h23 : xv 23 = _ := h23
            have h19 : xv 19 = _ := h19
            simp only [putsOf, List.foldl_cons, List.foldl_nil, List.getD_cons_zero, List.getD_cons_succ, List.getD_nil, cond_true, cond_false, Act.put, List.setIfInBounds_toArray, List.set_cons_zero, List.set_cons_succ, h23, h19] at hb
            clear h23
            clear h19
            subst hb
            rw [if_pos (by rfl)]
            (have q1 := HL.out.below hS HL.out.lt; have c0 := (q1.cell 0).trans (show _ = some (Value.int .i64 z.op) from rfl); have c1 := (q1.cell 1).trans (show _ = some (Value.int .i64 z.a) from rfl); have c2 := (q1.cell 2).trans (show _ = some (Value.int .i64 z.b) from rfl); have c3 := (q1.cell 3).trans (show _ = some (Value.int .i64 z.c) from rfl); have c4 := (q1.cell 4).trans (show _ = some (Value.int .i64 z.d) from rfl); have c5 := (q1.cell 5).trans (show _ = some (Value.int .u64 (z.k : Int)) from rfl); have cl := q1.lt; clear q1)
            go_wp2_with fail
            exact hK.out _ _ ⟨_, rfl, hS, rfl, AllP.same _⟩
          refine RelySteps.cons (RelyStep.mk [24, 19] [0, 1, 2, 3, 4, 5, 6, 7, 8, 9, 10, 12, 13, 14, 15, 16, 19, 20, 21, 22, 27, 28, 29, 30, 31, 32, 33, 34, 35, 36, 37, 38, 39] rfl rfl rfl (fun xv wS hS hV bq hb K hK => ?_)) ?_
          · obtain ⟨h24, h19, _⟩ := hV
            have h24 : xv 24 = _ := h24
            have h19 : xv 19 = _ := h19
            simp only [putsOf, List.foldl_cons, List.foldl_nil, List.getD_cons_zero, List.getD_cons_succ, List.getD_nil, cond_true, cond_false, Act.put, List.setIfInBounds_toArray, List.set_cons_zero, List.set_cons_succ, h24, h19] at hb
            clear h24
            clear h19
            subst hb
            rw [if_pos (by rfl)]
            go_wp2_with fail
            exact hK.out _ _ ⟨_, rfl, hS, rfl, AllP.same _⟩
          refine RelySteps.cons (RelyStep.mk [25, 19] [0, 1, 2, 3, 4, 5, 6, 7, 8, 9, 10, 12, 13, 14, 15, 16, 19, 22, 31, 32, 34, 35, 36, 37, 38, 39] rfl rfl rfl (fun xv wS hS hV bq hb K hK => ?_)) ?_
          · obtain ⟨h25, h19, _⟩ := hV
            have h25 : xv 25 = _ := h25
            have h19 : xv 19 = _ := h19
            simp only [putsOf, List.foldl_cons, List.foldl_nil, List.getD_cons_zero, List.getD_cons_succ, List.getD_nil, cond_true, cond_false, Act.put, List.setIfInBounds_toArray, List.set_cons_zero, List.set_cons_succ, h25, h19] at hb
            clear h25
            clear h19
            subst hb
            rw [if_pos (by rfl)]
            go_wp2_with fail
            exact hK.out _ _ ⟨_, rfl, hS, rfl, AllP.same _⟩
          refine RelySteps.cons (RelyStep.mk [26] [0, 1, 2, 3, 4, 5, 6, 7, 8, 9, 10, 11, 12, 13, 14, 15, 16, 17, 19, 20, 22, 23, 26, 29, 30, 31, 32, 33, 34, 35, 36, 37, 38, 39] rfl rfl rfl (fun xv wS hS hV bq hb K hK => ?_)) ?_
          · obtain ⟨h26, _⟩ := hV
            have h26 : xv 26 = _ := h26
            simp only [putsOf, List.foldl_cons, List.foldl_nil, List.getD_cons_zero, List.getD_cons_succ, List.getD_nil, cond_true, cond_false, Act.put, List.setIfInBounds_toArray, List.set_cons_zero, List.set_cons_succ, h26] at hb
            clear h26
            subst hb
            first
              | (rw [if_pos (by rfl)]
                 go_wp2_with fail
                 exact hK.out _ _ ⟨_, rfl, hS, rfl, AllP.same _⟩)
              | (refine not_wanted (by rfl) ?_
                 exact hK.out _ _ ⟨undef, rfl, hS, rfl, AllP.same _⟩)
          refine RelySteps.cons (RelyStep.mk [27, 26] [0, 1, 2, 3, 4, 5, 6, 7, 8, 9, 10, 11, 12, 13, 14, 15, 16, 17, 19, 20, 22, 23, 26, 30, 31, 32, 33, 34, 35, 36, 37, 38, 39] rfl rfl rfl (fun xv wS hS hV bq hb K hK => ?_)) ?_
          · obtain ⟨h27, h26, _⟩ := hV
            have h27 : xv 27 = _ := h27
            have h26 : xv 26 = _ := h26
            simp only [putsOf, List.foldl_cons, List.foldl_nil, List.getD_cons_zero, List.getD_cons_succ, List.getD_nil, cond_true, cond_false, Act.put, List.setIfInBounds_toArray, List.set_cons_zero, List.set_cons_succ, h27, h26] at hb
            clear h27
            clear h26
            subst hb
            first
              | (rw [if_pos (by rfl)]
                 have q1 := HL.out.below hS HL.out.lt
                 have c0 := (q1.cell 0).trans (show _ = some (Value.int .i64 z.op) from rfl)
                 have c1 := (q1.cell 1).trans (show _ = some (Value.int .i64 z.a) from rfl)
                 have c2 := (q1.cell 2).trans (show _ = some (Value.int .i64 z.b) from rfl)
                 have c3 := (q1.cell 3).trans (show _ = some (Value.int .i64 z.c) from rfl)
                 have c4 := (q1.cell 4).trans (show _ = some (Value.int .i64 z.d) from rfl)
                 have c5 := (q1.cell 5).trans (show _ = some (Value.int .u64 (z.k : Int)) from rfl)
                 have cl := q1.lt
                 clear q1
                 go_wp2_with fail
                 exact hK.out _ _ ⟨_, rfl, hS, rfl, AllP.same _⟩)
              | (refine not_wanted (by rfl) ?_
                 exact hK.out _ _ ⟨undef, rfl, hS, rfl, AllP.same _⟩)
          refine RelySteps.cons (RelyStep.mk [28, 26] [0, 1, 2, 3, 4, 5, 6, 7, 8, 9, 10, 11, 12, 13, 14, 15, 16, 17, 19, 20, 22, 23, 26, 31, 32, 33, 34, 35, 36, 37, 38, 39] rfl rfl rfl (fun xv wS hS hV bq hb K hK => ?_)) ?_
          · obtain ⟨h28, h26, _⟩ := hV
            have h28 : xv 28 = _ := h28
            have h26 : xv 26 = _ := h26
            simp only [putsOf, List.foldl_cons, List.foldl_nil, List.getD_cons_zero, List.getD_cons_succ, List.getD_nil, cond_true, cond_false, Act.put, List.setIfInBounds_toArray, List.set_cons_zero, List.set_cons_succ, h28, h26] at hb
            clear h28
            clear h26
            subst hb
            first
              | (rw [if_pos (by rfl)]
                 go_wp2_with fail
                 exact hK.out _ _ ⟨_, rfl, hS, rfl, AllP.same _⟩)
              | (refine not_wanted (by rfl) ?_
                 exact hK.out _ _ ⟨undef, rfl, hS, rfl, AllP.same _⟩)
          refine RelySteps.cons (RelyStep.mk [26, 29, 19] [0, 1, 2, 3, 4, 5, 6, 7, 8, 9, 10, 12, 13, 14, 15, 16, 19, 20, 22, 23, 26, 32, 33, 34, 35, 36, 37, 38, 39] rfl rfl rfl (fun xv wS hS hV bq hb K hK => ?_)) ?_
          · obtain ⟨h26, h29, h19, _⟩ := hV
            have h26 : xv 26 = _ := h26
            have h29 : xv 29 = _ := h29
            have h19 : xv 19 = _ := h19
            simp only [putsOf, List.foldl_cons, List.foldl_nil, List.getD_cons_zero, List.getD_cons_succ, List.getD_nil, cond_true, cond_false, Act.put, List.setIfInBounds_toArray, List.set_cons_zero, List.set_cons_succ, h26, h29, h19] at hb
            clear h26
            clear h29
            clear h19
            subst hb
            rw [if_pos (by rfl)]
            go_wp2_with fail
            exact hK.out _ _ ⟨_, rfl, hS, rfl, AllP.same _⟩
          refine RelySteps.cons (RelyStep.mk [22, 30, 19] [0, 1, 2, 3, 4, 5, 6, 7, 8, 9, 10, 12, 13, 14, 15, 16, 19, 23, 24, 26, 27, 33, 34, 35, 36, 37, 38, 39] rfl rfl rfl (fun xv wS hS hV bq hb K hK => ?_)) ?_
          · obtain ⟨h22, h30, h19, _⟩ := hV
            have h22 : xv 22 = _ := h22
            have h30 : xv 30 = _ := h30
            have h19 : xv 19 = _ := h19
            simp only [putsOf, List.foldl_cons, List.foldl_nil, List.getD_cons_zero, List.getD_cons_succ, List.getD_nil, cond_true, cond_false, Act.put, List.setIfInBounds_toArray, List.set_cons_zero, List.set_cons_succ, h22, h30, h19] at hb
            clear h22
            clear h30
            clear h19
            subst hb
            rw [if_pos (by rfl)]
            go_wp2_with fail
            exact hK.out _ _ ⟨_, rfl, hS, rfl, AllP.same _⟩
          refine RelySteps.cons (RelyStep.mk [19, 31] [0, 1, 2, 3, 4, 5, 6, 7, 8, 9, 10, 12, 13, 14, 15, 16, 19, 20, 23, 24, 25, 26, 27, 28, 34, 35, 36, 37, 38, 39] rfl rfl rfl (fun xv wS hS hV bq hb K hK => ?_)) ?_
          · obtain ⟨h19, h31, _⟩ := hV
            have h19 : xv 19 = _ := h19
            have h31 : xv 31 = _ := h31
            simp only [putsOf, List.foldl_cons, List.foldl_nil, List.getD_cons_zero, List.getD_cons_succ, List.getD_nil, cond_true, cond_false, Act.put, List.setIfInBounds_toArray, List.set_cons_zero, List.set_cons_succ, h19, h31] at hb
            clear h19
            clear h31
            subst hb
            rw [if_pos (by rfl)]
            go_wp2_with fail
            exact hK.out _ _ ⟨_, rfl, hS, rfl, AllP.same _⟩
          refine RelySteps.cons (RelyStep.mk [32] [0, 1, 2, 3, 4, 5, 6, 7, 8, 9, 10, 11, 12, 13, 14, 15, 16, 17, 19, 20, 23, 26, 27, 28, 29] rfl rfl rfl (fun xv wS hS hV bq hb K hK => ?_)) ?_
          · obtain ⟨h32, _⟩ := hV
            have h32 : xv 32 = _ := h32
            simp only [putsOf, List.foldl_cons, List.foldl_nil, List.getD_cons_zero, List.getD_cons_succ, List.getD_nil, cond_true, cond_false, Act.put, List.setIfInBounds_toArray, List.set_cons_zero, List.set_cons_succ, h32] at hb
            clear h32
            subst hb
            rw [if_pos (by rfl)]
            go_wp2_with fail
            exact hK.out _ _ ⟨_, rfl, hS, rfl, AllP.same _⟩
          refine RelySteps.cons (RelyStep.mk [33] [0, 1, 2, 3, 4, 5, 6, 7, 8, 9, 10, 11, 12, 13, 14, 15, 16, 17, 18, 19, 20, 21, 22, 23, 24, 26, 27, 28, 29, 30, 33, 36, 37, 38, 39] rfl rfl rfl (fun xv wS hS hV bq hb K hK => ?_)) ?_
          · obtain ⟨h33, _⟩ := hV
            have h33 : xv 33 = _ := h33
            simp only [putsOf, List.foldl_cons, List.foldl_nil, List.getD_cons_zero, List.getD_cons_succ, List.getD_nil, cond_true, cond_false, Act.put, List.setIfInBounds_toArray, List.set_cons_zero, List.set_cons_succ, h33] at hb
            clear h33
            subst hb
            rw [if_pos (by rfl)]
            (have q1 := HL.out.below hS HL.out.lt; have c0 := (q1.cell 0).trans (show _ = some (Value.int .i64 z.op) from rfl); have c1 := (q1.cell 1).trans (show _ = some (Value.int .i64 z.a) from rfl); have c2 := (q1.cell 2).trans (show _ = some (Value.int .i64 z.b) from rfl); have c3 := (q1.cell 3).trans (show _ = some (Value.int .i64 z.c) from rfl); have c4 := (q1.cell 4).trans (show _ = some (Value.int .i64 z.d) from rfl); have c5 := (q1.cell 5).trans (show _ = some (Value.int .u64 (z.k : Int)) from rfl); have cl := q1.lt; clear q1)
            go_wp2_with fail
            exact hK.out _ _ ⟨_, rfl, hS, rfl, AllP.same _⟩
          refine RelySteps.cons (RelyStep.mk [34, 33] [0, 1, 2, 3, 4, 5, 6, 7, 8, 9, 10, 11, 12, 13, 14, 15, 16, 17, 18, 19, 20, 21, 22, 23, 24, 26, 27, 28, 29, 30, 33, 36, 39] rfl rfl rfl (fun xv wS hS hV bq hb K hK => ?_)) ?_
          · obtain ⟨h34, h33, _⟩ := hV
            have h34 : xv 34 = _ := h34
            have h33 : xv 33 = _ := h33
            simp only [putsOf, List.foldl_cons, List.foldl_nil, List.getD_cons_zero, List.getD_cons_succ, List.getD_nil, cond_true, cond_false, Act.put, List.setIfInBounds_toArray, List.set_cons_zero, List.set_cons_succ, h34, h33] at hb
            clear h34
            clear h33
            subst hb
            rw [if_pos (by rfl)]
            have HSS := Lib.hid hS
            clear hS
            go_wp2_with fail
            refine (HRI.out _).mono ?_
            rintro e w9 ⟨rfl, hb⟩
            exact hK.out _ _ ⟨_, rfl, HSS.out.trans (hb.mono HSS.out.size), rfl, AllP.of _ (fun j _ u h => tlV_all h)⟩
          refine RelySteps.cons (RelyStep.mk [33] [0, 1, 2, 3, 4, 5, 6, 7, 8, 9, 10, 11, 12, 13, 14, 15, 16, 17, 18, 19, 20, 21, 22, 23, 24, 26, 27, 28, 29, 30, 33, 34, 35, 38, 39] rfl rfl rfl (fun xv wS hS hV bq hb K hK => ?_)) ?_
          · obtain ⟨h33, _⟩ := hV
            have h33 : xv 33 = _ := h33
            simp only [putsOf, List.foldl_cons, List.foldl_nil, List.getD_cons_zero, List.getD_cons_succ, List.getD_nil, cond_true, cond_false, Act.put, List.setIfInBounds_toArray, List.set_cons_zero, List.set_cons_succ, h33] at hb
            clear h33
            subst hb
            rw [if_pos (by rfl)]
            (have q1 := HL.out.below hS HL.out.lt; have c0 := (q1.cell 0).trans (show _ = some (Value.int .i64 z.op) from rfl); have c1 := (q1.cell 1).trans (show _ = some (Value.int .i64 z.a) from rfl); have c2 := (q1.cell 2).trans (show _ = some (Value.int .i64 z.b) from rfl); have c3 := (q1.cell 3).trans (show _ = some (Value.int .i64 z.c) from rfl); have c4 := (q1.cell 4).trans (show _ = some (Value.int .i64 z.d) from rfl); have c5 := (q1.cell 5).trans (show _ = some (Value.int .u64 (z.k : Int)) from rfl); have cl := q1.lt; clear q1)
            go_wp2_with fail
            exact hK.out _ _ ⟨_, rfl, hS, rfl, AllP.same _⟩
          refine RelySteps.cons (RelyStep.mk [36, 33] [0, 1, 2, 3, 4, 5, 6, 7, 8, 9, 10, 11, 12, 13, 14, 15, 16, 17, 18, 19, 20, 21, 22, 23, 24, 26, 27, 28, 29, 30, 33, 35, 39] rfl rfl rfl (fun xv wS hS hV bq hb K hK => ?_)) ?_
          · obtain ⟨h36, h33, _⟩ := hV
            have h36 : xv 36 = _ := h36
            have h33 : xv 33 = _ := h33
            simp only [putsOf, List.foldl_cons, List.foldl_nil, List.getD_cons_zero, List.getD_cons_succ, List.getD_nil, cond_true, cond_false, Act.put, List.setIfInBounds_toArray, List.set_cons_zero, List.set_cons_succ, h36, h33] at hb
            clear h36
            clear h33
            subst hb
            rw [if_pos (by rfl)]
            have HSS := Lib.hid hS
            clear hS
            go_wp2_with fail
            refine (HRR.out _).mono ?_
            rintro e w9 ⟨rfl, hb⟩
            exact hK.out _ _ ⟨_, rfl, HSS.out.trans (hb.mono HSS.out.size), rfl, AllP.of _ (fun j _ u h => tlV_all h)⟩
          refine RelySteps.cons (RelyStep.mk [35, 37, 33] [0, 1, 2, 3, 4, 5, 6, 7, 8, 9, 10, 11, 12, 13, 14, 15, 16, 17, 18, 19, 20, 21, 22, 23, 24, 26, 27, 28, 29, 30, 33] rfl rfl rfl (fun xv wS hS hV bq hb K hK => ?_)) ?_
          · obtain ⟨h35, h37, h33, _⟩ := hV
            have h35 : xv 35 = _ := h35
            have h37 : xv 37 = _ := h37
            have h33 : xv 33 = _ := h33
            simp only [putsOf, List.foldl_cons, List.foldl_nil, List.getD_cons_zero, List.getD_cons_succ, List.getD_nil, cond_true, cond_false, Act.put, List.setIfInBounds_toArray, List.set_cons_zero, List.set_cons_succ, h35, h37, h33] at hb
            clear h35
            clear h37
            clear h33
            subst hb
            rw [if_pos (by rfl)]
            go_wp2_with fail
            exact hK.out _ _ ⟨_, rfl, hS, rfl, AllP.same _⟩
          refine RelySteps.cons (RelyStep.mk [33, 38] [0, 1, 2, 3, 4, 5, 6, 7, 8, 9, 10, 11, 12, 13, 14, 15, 16, 17, 18, 19, 20, 21, 22, 23, 24, 26, 27, 28, 29, 30, 33] rfl rfl rfl (fun xv wS hS hV bq hb K hK => ?_)) ?_
          · obtain ⟨h33, h38, _⟩ := hV
            have h33 : xv 33 = _ := h33
            have h38 : xv 38 = _ := h38
            simp only [putsOf, List.foldl_cons, List.foldl_nil, List.getD_cons_zero, List.getD_cons_succ, List.getD_nil, cond_true, cond_false, Act.put, List.setIfInBounds_toArray, List.set_cons_zero, List.set_cons_succ, h33, h38] at hb
            clear h33
            clear h38
            subst hb
            rw [if_pos (by rfl)]
            go_wp2_with fail
            exact hK.out _ _ ⟨_, rfl, hS, rfl, AllP.same _⟩
          refine RelySteps.cons (RelyStep.mk [39] [] rfl rfl rfl (fun xv wS hS hV bq hb K hK => ?_)) ?_
          · obtain ⟨h39, _⟩ := hV
            have h39 : xv 39 = _ := h39
            simp only [putsOf, List.foldl_cons, List.foldl_nil, List.getD_cons_zero, List.getD_cons_succ, List.getD_nil, cond_true, cond_false, Act.put, List.setIfInBounds_toArray, List.set_cons_zero, List.set_cons_succ, h39] at hb
            clear h39
            subst hb
            rw [if_pos (by rfl)]
            go_wp2_with fail
            exact hK.out _ _ ⟨_, rfl, hS, rfl, AllP.same _⟩
          exact RelySteps.nil
        case rE =>
          intro xv wE hS hV
          have h40 := hV 40 (by decide) (by decide)
          clear hV
          simp only [putsOf, List.foldl_cons, List.foldl_nil, List.getD_cons_zero, List.getD_cons_succ, List.getD_nil, cond_true, cond_false, Act.put, List.setIfInBounds_toArray, List.set_cons_zero, List.set_cons_succ]
          have h40 : xv 40 = _ := h40
          rw [h40]; clear h40
          generalize xv 0 = y0 at *
          generalize xv 1 = y1 at *
          generalize xv 2 = y2 at *
          generalize xv 3 = y3 at *
          generalize xv 4 = y4 at *
          generalize xv 5 = y5 at *
          generalize xv 6 = y6 at *
          generalize xv 7 = y7 at *
          generalize xv 8 = y8 at *
          generalize xv 9 = y9 at *
          generalize xv 10 = y10 at *
          generalize xv 11 = y11 at *
          generalize xv 12 = y12 at *
          generalize xv 13 = y13 at *
          generalize xv 14 = y14 at *
          generalize xv 15 = y15 at *
          generalize xv 16 = y16 at *
          generalize xv 17 = y17 at *
          generalize xv 18 = y18 at *
          generalize xv 19 = y19 at *
          generalize xv 20 = y20 at *
          generalize xv 21 = y21 at *
          generalize xv 22 = y22 at *
          generalize xv 23 = y23 at *
          generalize xv 24 = y24 at *
          generalize xv 25 = y25 at *
          generalize xv 26 = y26 at *
          generalize xv 27 = y27 at *
          generalize xv 28 = y28 at *
          generalize xv 29 = y29 at *
          generalize xv 30 = y30 at *
          generalize xv 31 = y31 at *
          generalize xv 32 = y32 at *
          generalize xv 33 = y33 at *
          generalize xv 34 = y34 at *
          generalize xv 35 = y35 at *
          generalize xv 36 = y36 at *
          generalize xv 37 = y37 at *
          generalize xv 38 = y38 at *
          generalize xv 39 = y39 at *
          have HS9 := Lib.hid hS
          clear hS
          go_wp2
          go_ret
          exact ⟨rfl, HB.out.trans (HS9.out.mono HB.out.size)⟩
    case true =>
      cases Q18
      case false =>
        go_wp2_with fail
        refine wp_region_rely (fun q => Below wc.heap.size wc q) (tlV W.heap.size (nmB z.op) z true P17 false Q25 rb) [some 63, some 64, some 65, some 66, some 67, some 68, some 69, some 70, some 71, some 72, some 73, some 74, some 75, some 76, some 77, some 78, some 79, some 80, some 81, some 82, some 83, some 84, some 85, some 86, some 87, some 88, some 89, some 90, some 91, some 92, some 93, some 94, some 95, some 96, some 97, some 98, some 99, some 100, some 101, some 102, some 4] [[], [0], [1], [], [2, 3], [4], [5], [6, 5], [7, 5], [5], [9, 5], [10, 5], [11, 5], [12], [13, 12], [14, 12], [12, 15, 5], [8, 16, 5], [5, 17], [18], [19], [20, 19], [21, 19], [19], [23, 19], [24, 19], [25, 19], [26], [27, 26], [28, 26], [26, 29, 19], [22, 30, 19], [19, 31], [32], [33], [34, 33], [33], [36, 33], [35, 37, 33], [33, 38], [39]] [[], [0], [0, 1], [], [1, 2, 3], [1, 2, 3, 4], [4], [4, 6], [4, 6, 7], [4], [4, 9], [4, 9, 10], [4, 7, 10, 11], [11], [11, 13], [11, 13, 14], [4, 11, 14, 15], [4, 7, 8, 15, 16], [4, 8, 16, 17], [11, 17, 18], [18], [18, 20], [18, 20, 21], [18], [18, 23], [18, 23, 24], [18, 21, 24, 25], [25], [25, 27], [25, 27, 28], [18, 25, 28, 29], [18, 21, 22, 29, 30], [18, 22, 30, 31], [25, 31, 32], [32], [32, 34], [32], [32, 34, 36], [32, 34, 35, 36, 37], [32, 35, 37, 38], [0, 1, 2, 3, 4, 5, 6, 7, 8, 9, 10, 11, 12, 13, 14, 15, 16, 17, 18, 19, 20, 21, 22, 23, 24, 25, 26, 27, 28, 29, 30, 31, 32, 33, 34, 35, 36, 37, 38, 39]] [[2, 3, 4, 5, 6, 7, 8, 9, 10, 11, 12, 13, 14, 15, 16, 17, 18, 19, 20, 21, 22, 23, 24, 25, 26, 27, 28, 29, 30, 31, 32, 33, 34, 35, 36, 37, 38, 39], [3, 4, 5, 6, 7, 8, 9, 10, 11, 12, 13, 14, 15, 16, 17, 18, 19, 20, 21, 22, 23, 24, 25, 26, 27, 28, 29, 30, 31, 32, 33, 34, 35, 36, 37, 38, 39], [3, 6, 7, 8, 9, 10, 11, 12, 13, 14, 15, 16, 17, 18, 19, 20, 21, 22, 23, 24, 25, 26, 27, 28, 29, 30, 31, 32, 33, 34, 35, 36, 37, 38, 39], [0, 1, 2, 5, 6, 7, 8, 9, 10, 11, 12, 13, 14, 15, 16, 17, 18, 19, 20, 21, 22, 23, 24, 25, 26, 27, 28, 29, 30, 31, 32, 33, 34, 35, 36, 37, 38, 39], [6, 7, 8, 9, 10, 11, 12, 13, 14, 15, 16, 17, 18, 19, 20, 21, 22, 23, 24, 25, 26, 27, 28, 29, 30, 31, 32, 33, 34, 35, 36, 37, 38, 39], [13, 14, 15, 19, 20, 21, 22, 23, 24, 25, 26, 27, 28, 29, 30, 31, 32, 33, 34, 35, 36, 37, 38, 39], [0, 5, 8, 9, 10, 11, 12, 13, 14, 15, 16, 17, 18, 19, 20, 21, 22, 23, 24, 25, 26, 27, 28, 29, 30, 31, 32, 33, 34, 35, 36, 37, 38, 39], [0, 5, 9, 10, 11, 12, 13, 14, 15, 16, 17, 18, 19, 20, 21, 22, 23, 24, 25, 26, 27, 28, 29, 30, 31, 32, 33, 34, 35, 36, 37, 38, 39], [0, 5, 9, 10, 11, 13, 14, 15, 16, 18, 19, 20, 21, 22, 23, 24, 25, 26, 27, 28, 29, 30, 31, 32, 33, 34, 35, 36, 37, 38, 39], [0, 5, 6, 7, 8, 11, 12, 13, 14, 15, 16, 17, 18, 19, 20, 21, 22, 23, 24, 25, 26, 27, 28, 29, 30, 31, 32, 33, 34, 35, 36, 37, 38, 39], [0, 5, 6, 7, 8, 12, 13, 14, 15, 16, 17, 18, 19, 20, 21, 22, 23, 24, 25, 26, 27, 28, 29, 30, 31, 32, 33, 34, 35, 36, 37, 38, 39], [0, 5, 6, 7, 8, 13, 14, 15, 16, 17, 18, 19, 20, 21, 22, 23, 24, 25, 26, 27, 28, 29, 30, 31, 32, 33, 34, 35, 36, 37, 38, 39], [0, 5, 8, 17, 18, 20, 21, 22, 23, 24, 25, 26, 27, 28, 29, 30, 31, 32, 33, 34, 35, 36, 37, 38, 39], [0, 1, 2, 3, 5, 6, 8, 9, 12, 15, 16, 17, 18, 19, 20, 21, 22, 23, 24, 25, 26, 27, 28, 29, 30, 31, 32, 33, 34, 35, 36, 37, 38, 39], [0, 1, 2, 3, 5, 6, 8, 9, 12, 16, 17, 18, 19, 20, 21, 22, 23, 24, 25, 26, 27, 28, 29, 30, 31, 32, 33, 34, 35, 36, 37, 38, 39], [0, 1, 2, 3, 5, 6, 8, 9, 12, 17, 18, 19, 20, 21, 22, 23, 24, 25, 26, 27, 28, 29, 30, 31, 32, 33, 34, 35, 36, 37, 38, 39], [0, 5, 6, 8, 9, 12, 18, 19, 20, 21, 22, 23, 24, 25, 26, 27, 28, 29, 30, 31, 32, 33, 34, 35, 36, 37, 38, 39], [0, 5, 9, 10, 12, 13, 19, 20, 21, 22, 23, 24, 25, 26, 27, 28, 29, 30, 31, 32, 33, 34, 35, 36, 37, 38, 39], [0, 5, 6, 9, 10, 11, 12, 13, 14, 20, 21, 22, 23, 24, 25, 26, 27, 28, 29, 30, 31, 32, 33, 34, 35, 36, 37, 38, 39], [0, 1, 2, 3, 5, 6, 9, 12, 13, 14, 15, 27, 28, 29, 33, 34, 35, 36, 37, 38, 39], [0, 1, 2, 3, 4, 5, 6, 7, 8, 9, 10, 12, 13, 14, 15, 16, 19, 22, 23, 24, 25, 26, 27, 28, 29, 30, 31, 32, 33, 34, 35, 36, 37, 38, 39], [0, 1, 2, 3, 4, 5, 6, 7, 8, 9, 10, 12, 13, 14, 15, 16, 19, 23, 24, 25, 26, 27, 28, 29, 30, 31, 32, 33, 34, 35, 36, 37, 38, 39], [0, 1, 2, 3, 4, 5, 6, 7, 8, 9, 10, 12, 13, 14, 15, 16, 19, 23, 24, 25, 27, 28, 29, 30, 32, 33, 34, 35, 36, 37, 38, 39], [0, 1, 2, 3, 4, 5, 6, 7, 8, 9, 10, 12, 13, 14, 15, 16, 19, 20, 21, 22, 25, 26, 27, 28, 29, 30, 31, 32, 33, 34, 35, 36, 37, 38, 39], [0, 1, 2, 3, 4, 5, 6, 7, 8, 9, 10, 12, 13, 14, 15, 16, 19, 20, 21, 22, 26, 27, 28, 29, 30, 31, 32, 33, 34, 35, 36, 37, 38, 39], [0, 1, 2, 3, 4, 5, 6, 7, 8, 9, 10, 12, 13, 14, 15, 16, 19, 20, 21, 22, 27, 28, 29, 30, 31, 32, 33, 34, 35, 36, 37, 38, 39], [0, 1, 2, 3, 4, 5, 6, 7, 8, 9, 10, 12, 13, 14, 15, 16, 19, 22, 31, 32, 34, 35, 36, 37, 38, 39], [0, 1, 2, 3, 4, 5, 6, 7, 8, 9, 10, 11, 12, 13, 14, 15, 16, 17, 19, 20, 22, 23, 26, 29, 30, 31, 32, 33, 34, 35, 36, 37, 38, 39], [0, 1, 2, 3, 4, 5, 6, 7, 8, 9, 10, 11, 12, 13, 14, 15, 16, 17, 19, 20, 22, 23, 26, 30, 31, 32, 33, 34, 35, 36, 37, 38, 39], [0, 1, 2, 3, 4, 5, 6, 7, 8, 9, 10, 11, 12, 13, 14, 15, 16, 17, 19, 20, 22, 23, 26, 31, 32, 33, 34, 35, 36, 37, 38, 39], [0, 1, 2, 3, 4, 5, 6, 7, 8, 9, 10, 12, 13, 14, 15, 16, 19, 20, 22, 23, 26, 32, 33, 34, 35, 36, 37, 38, 39], [0, 1, 2, 3, 4, 5, 6, 7, 8, 9, 10, 12, 13, 14, 15, 16, 19, 23, 24, 26, 27, 33, 34, 35, 36, 37, 38, 39], [0, 1, 2, 3, 4, 5, 6, 7, 8, 9, 10, 12, 13, 14, 15, 16, 19, 20, 23, 24, 25, 26, 27, 28, 34, 35, 36, 37, 38, 39], [0, 1, 2, 3, 4, 5, 6, 7, 8, 9, 10, 11, 12, 13, 14, 15, 16, 17, 19, 20, 23, 26, 27, 28, 29], [0, 1, 2, 3, 4, 5, 6, 7, 8, 9, 10, 11, 12, 13, 14, 15, 16, 17, 18, 19, 20, 21, 22, 23, 24, 26, 27, 28, 29, 30, 33, 36, 37, 38, 39], [0, 1, 2, 3, 4, 5, 6, 7, 8, 9, 10, 11, 12, 13, 14, 15, 16, 17, 18, 19, 20, 21, 22, 23, 24, 26, 27, 28, 29, 30, 33, 36, 39], [0, 1, 2, 3, 4, 5, 6, 7, 8, 9, 10, 11, 12, 13, 14, 15, 16, 17, 18, 19, 20, 21, 22, 23, 24, 26, 27, 28, 29, 30, 33, 34, 35, 38, 39], [0, 1, 2, 3, 4, 5, 6, 7, 8, 9, 10, 11, 12, 13, 14, 15, 16, 17, 18, 19, 20, 21, 22, 23, 24, 26, 27, 28, 29, 30, 33, 35, 39], [0, 1, 2, 3, 4, 5, 6, 7, 8, 9, 10, 11, 12, 13, 14, 15, 16, 17, 18, 19, 20, 21, 22, 23, 24, 26, 27, 28, 29, 30, 33], [0, 1, 2, 3, 4, 5, 6, 7, 8, 9, 10, 11, 12, 13, 14, 15, 16, 17, 18, 19, 20, 21, 22, 23, 24, 26, 27, 28, 29, 30, 33], []] [0, 1, 2, 3, 4, 5, 6, 7, 8, 9, 10, 11, 12, 13, 14, 15, 16, 17, 18, 19, 20, 21, 22, 23, 24, 25, 26, 27, 28, 29, 30, 31, 32, 33, 34, 35, 36, 37, 38, 39, 40] 41 (by kernel_rfl) (by kernel_rfl) (by kernel_rfl) (by kernel_rfl) ?rS (fun j h1 h2 => absurd (Nat.lt_of_lt_of_le h1 (Nat.le_trans (by decide) h2)) (Nat.lt_irrefl _)) ?rT ?rE
        case rS => exact below_drewN (Below.refl _ _) 1
        case rT =>
          refine RelySteps.cons (RelyStep.mk [] [2, 3, 4, 5, 6, 7, 8, 9, 10, 11, 12, 13, 14, 15, 16, 17, 18, 19, 20, 21, 22, 23, 24, 25, 26, 27, 28, 29, 30, 31, 32, 33, 34, 35, 36, 37, 38, 39] rfl rfl rfl (fun xv wS hS hV bq hb K hK => ?_)) ?_
          · clear hV
            simp only [putsOf, List.foldl_cons, List.foldl_nil, List.getD_cons_zero, List.getD_cons_succ, List.getD_nil, cond_true, cond_false, Act.put, List.setIfInBounds_toArray, List.set_cons_zero, List.set_cons_succ] at hb
            subst hb
            rw [if_pos (by rfl)]
            go_wp2_with fail
            exact hK.out _ _ ⟨_, rfl, hS, rfl, AllP.same _⟩
          refine RelySteps.cons (RelyStep.mk [0] [3, 4, 5, 6, 7, 8, 9, 10, 11, 12, 13, 14, 15, 16, 17, 18, 19, 20, 21, 22, 23, 24, 25, 26, 27, 28, 29, 30, 31, 32, 33, 34, 35, 36, 37, 38, 39] rfl rfl rfl (fun xv wS hS hV bq hb K hK => ?_)) ?_
          · obtain ⟨h0, _⟩ := hV
            have h0 : xv 0 = _ := h0
            simp only [putsOf, List.foldl_cons, List.foldl_nil, List.getD_cons_zero, List.getD_cons_succ, List.getD_nil, cond_true, cond_false, Act.put, List.setIfInBounds_toArray, List.set_cons_zero, List.set_cons_succ, h0] at hb
            clear h0
            subst hb
            rw [if_pos (by rfl)]
            (have q1 := HL.out.below hS HL.out.lt; have c0 := (q1.cell 0).trans (show _ = some (Value.int .i64 z.op) from rfl); have c1 := (q1.cell 1).trans (show _ = some (Value.int .i64 z.a) from rfl); have c2 := (q1.cell 2).trans (show _ = some (Value.int .i64 z.b) from rfl); have c3 := (q1.cell 3).trans (show _ = some (Value.int .i64 z.c) from rfl); have c4 := (q1.cell 4).trans (show _ = some (Value.int .i64 z.d) from rfl); have c5 := (q1.cell 5).trans (show _ = some (Value.int .u64 (z.k : Int)) from rfl); have cl := q1.lt; clear q1)
            go_wp2_with fail
            exact hK.out _ _ ⟨_, rfl, hS, rfl, AllP.same _⟩
          refine RelySteps.cons (RelyStep.mk [1] [3, 6, 7, 8, 9, 10, 11, 12, 13, 14, 15, 16, 17, 18, 19, 20, 21, 22, 23, 24, 25, 26, 27, 28, 29, 30, 31, 32, 33, 34, 35, 36, 37, 38, 39] rfl rfl rfl (fun xv wS hS hV bq hb K hK => ?_)) ?_
          · obtain ⟨h1, _⟩ := hV
            have h1 : xv 1 = _ := h1
            simp only [putsOf, List.foldl_cons, List.foldl_nil, List.getD_cons_zero, List.getD_cons_succ, List.getD_nil, cond_true, cond_false, Act.put, List.setIfInBounds_toArray, List.set_cons_zero, List.set_cons_succ, h1] at hb
            clear h1
            subst hb
            rw [if_pos (by rfl)]
            have HSS := Lib.hid hS
            clear hS
            go_wp2_with fail
            refine (name_any z.op _ (HN.out.later (HB.out.trans (HSS.out.mono HB.out.size)) hgl)).mono ?_
            rintro e w9 ⟨rfl, rfl⟩
            exact hK.out _ _ ⟨_, rfl, HSS.out, rfl, AllP.same _⟩
          refine RelySteps.cons (RelyStep.mk [] [0, 1, 2, 5, 6, 7, 8, 9, 10, 11, 12, 13, 14, 15, 16, 17, 18, 19, 20, 21, 22, 23, 24, 25, 26, 27, 28, 29, 30, 31, 32, 33, 34, 35, 36, 37, 38, 39] rfl rfl rfl (fun xv wS hS hV bq hb K hK => ?_)) ?_
          · clear hV
            simp only [putsOf, List.foldl_cons, List.foldl_nil, List.getD_cons_zero, List.getD_cons_succ, List.getD_nil, cond_true, cond_false, Act.put, List.setIfInBounds_toArray, List.set_cons_zero, List.set_cons_succ] at hb
            subst hb
            rw [if_pos (by rfl)]
            go_wp2_with fail
            exact hK.out _ _ ⟨_, rfl, hS, rfl, AllP.same _⟩
          refine RelySteps.cons (RelyStep.mk [2, 3] [6, 7, 8, 9, 10, 11, 12, 13, 14, 15, 16, 17, 18, 19, 20, 21, 22, 23, 24, 25, 26, 27, 28, 29, 30, 31, 32, 33, 34, 35, 36, 37, 38, 39] rfl rfl rfl (fun xv wS hS hV bq hb K hK => ?_)) ?_
          · obtain ⟨h2, h3, _⟩ := hV
            have h2 : xv 2 = _ := h2
            have h3 : xv 3 = _ := h3
            simp only [putsOf, List.foldl_cons, List.foldl_nil, List.getD_cons_zero, List.getD_cons_succ, List.getD_nil, cond_true, cond_false, Act.put, List.setIfInBounds_toArray, List.set_cons_zero, List.set_cons_succ, h2, h3] at hb
            clear h2
            clear h3
            subst hb
            rw [if_pos (by rfl)]
            go_wp2_with fail
            exact hK.out _ _ ⟨_, rfl, hS, rfl, AllP.same _⟩
          refine RelySteps.cons (RelyStep.mk [4] [13, 14, 15, 19, 20, 21, 22, 23, 24, 25, 26, 27, 28, 29, 30, 31, 32, 33, 34, 35, 36, 37, 38, 39] rfl rfl rfl (fun xv wS hS hV bq hb K hK => ?_)) ?_
          · obtain ⟨h4, _⟩ := hV
            have h4 : xv 4 = _ := h4
            simp only [putsOf, List.foldl_cons, List.foldl_nil, List.getD_cons_zero, List.getD_cons_succ, List.getD_nil, cond_true, cond_false, Act.put, List.setIfInBounds_toArray, List.set_cons_zero, List.set_cons_succ, h4] at hb
            clear h4
            subst hb
            rw [if_pos (by rfl)]
            go_wp2_with fail
            exact hK.out _ _ ⟨_, rfl, hS, rfl, AllP.same _⟩
          refine RelySteps.cons (RelyStep.mk [5] [0, 5, 8, 9, 10, 11, 12, 13, 14, 15, 16, 17, 18, 19, 20, 21, 22, 23, 24, 25, 26, 27, 28, 29, 30, 31, 32, 33, 34, 35, 36, 37, 38, 39] rfl rfl rfl (fun xv wS hS hV bq hb K hK => ?_)) ?_
          · obtain ⟨h5, _⟩ := hV
            have h5 : xv 5 = _ := h5
            simp only [putsOf, List.foldl_cons, List.foldl_nil, List.getD_cons_zero, List.getD_cons_succ, List.getD_nil, cond_true, cond_false, Act.put, List.setIfInBounds_toArray, List.set_cons_zero, List.set_cons_succ, h5] at hb
            clear h5
            subst hb
            rw [if_pos (by rfl)]
            go_wp2_with fail
            exact hK.out _ _ ⟨_, rfl, hS, rfl, AllP.same _⟩
          refine RelySteps.cons (RelyStep.mk [6, 5] [0, 5, 9, 10, 11, 12, 13, 14, 15, 16, 17, 18, 19, 20, 21, 22, 23, 24, 25, 26, 27, 28, 29, 30, 31, 32, 33, 34, 35, 36, 37, 38, 39] rfl rfl rfl (fun xv wS hS hV bq hb K hK => ?_)) ?_
          · obtain ⟨h6, h5, _⟩ := hV
            have h6 : xv 6 = _ := h6
            have h5 : xv 5 = _ := h5
            simp only [putsOf, List.foldl_cons, List.foldl_nil, List.getD_cons_zero, List.getD_cons_succ, List.getD_nil, cond_true, cond_false, Act.put, List.setIfInBounds_toArray, List.set_cons_zero, List.set_cons_succ, h6, h5] at hb
            clear h6
            clear h5
            subst hb
            rw [if_pos (by rfl)]
            (have q1 := HL.out.below hS HL.out.lt; have c0 := (q1.cell 0).trans (show _ = some (Value.int .i64 z.op) from rfl); have c1 := (q1.cell 1).trans (show _ = some (Value.int .i64 z.a) from rfl); have c2 := (q1.cell 2).trans (show _ = some (Value.int .i64 z.b) from rfl); have c3 := (q1.cell 3).trans (show _ = some (Value.int .i64 z.c) from rfl); have c4 := (q1.cell 4).trans (show _ = some (Value.int .i64 z.d) from rfl); have c5 := (q1.cell 5).trans (show _ = some (Value.int .u64 (z.k : Int)) from rfl); have cl := q1.lt; clear q1)
            go_wp2_with fail
            exact hK.out _ _ ⟨_, rfl, hS, rfl, AllP.same _⟩
          refine RelySteps.cons (RelyStep.mk [7, 5] [0, 5, 9, 10, 11, 13, 14, 15, 16, 18, 19, 20, 21, 22, 23, 24, 25, 26, 27, 28, 29, 30, 31, 32, 33, 34, 35, 36, 37, 38, 39] rfl rfl rfl (fun xv wS hS hV bq hb K hK => ?_)) ?_
          · obtain ⟨h7, h5, _⟩ := hV
            have h7 : xv 7 = _ := h7
            have h5 : xv 5 = _ := h5
            simp only [putsOf, List.foldl_cons, List.foldl_nil, List.getD_cons_zero, List.getD_cons_succ, List.getD_nil, cond_true, cond_false, Act.put, List.setIfInBounds_toArray, List.set_cons_zero, List.set_cons_succ, h7, h5] at hb
            clear h7
            clear h5
            subst hb
            rw [if_pos (by rfl)]
            have HSS := Lib.hid hS
            clear hS
            go_wp2_with fail
            refine (HPL.out _).mono ?_
            rintro e w9 ⟨rfl, rfl⟩
            exact hK.out _ _ ⟨_, rfl, HSS.out, rfl, AllP.same _⟩
          refine RelySteps.cons (RelyStep.mk [5] [0, 5, 6, 7, 8, 11, 12, 13, 14, 15, 16, 17, 18, 19, 20, 21, 22, 23, 24, 25, 26, 27, 28, 29, 30, 31, 32, 33, 34, 35, 36, 37, 38, 39] rfl rfl rfl (fun xv wS hS hV bq hb K hK => ?_)) ?_
          · obtain ⟨h5, _⟩ := hV
            have h5 : xv 5 = _ := h5
            simp only [putsOf, List.foldl_cons, List.foldl_nil, List.getD_cons_zero, List.getD_cons_succ, List.getD_nil, cond_true, cond_false, Act.put, List.setIfInBounds_toArray, List.set_cons_zero, List.set_cons_succ, h5] at hb
            clear h5
            subst hb
            rw [if_pos (by rfl)]
            go_wp2_with fail
            exact hK.out _ _ ⟨_, rfl, hS, rfl, AllP.same _⟩
          refine RelySteps.cons (RelyStep.mk [9, 5] [0, 5, 6, 7, 8, 12, 13, 14, 15, 16, 17, 18, 19, 20, 21, 22, 23, 24, 25, 26, 27, 28, 29, 30, 31, 32, 33, 34, 35, 36, 37, 38, 39] rfl rfl rfl (fun xv wS hS hV bq hb K hK => ?_)) ?_
          · obtain ⟨h9, h5, _⟩ := hV
            have h9 : xv 9 = _ := h9
            have h5 : xv 5 = _ := h5
            simp only [putsOf, List.foldl_cons, List.foldl_nil, List.getD_cons_zero, List.getD_cons_succ, List.getD_nil, cond_true, cond_false, Act.put, List.setIfInBounds_toArray, List.set_cons_zero, List.set_cons_succ, h9, h5] at hb
            clear h9
            clear h5
            subst hb
            rw [if_pos (by rfl)]
            (have q1 := HL.out.below hS HL.out.lt; have c0 := (q1.cell 0).trans (show _ = some (Value.int .i64 z.op) from rfl); have c1 := (q1.cell 1).trans (show _ = some (Value.int .i64 z.a) from rfl); have c2 := (q1.cell 2).trans (show _ = some (Value.int .i64 z.b) from rfl); have c3 := (q1.cell 3).trans (show _ = some (Value.int .i64 z.c) from rfl); have c4 := (q1.cell 4).trans (show _ = some (Value.int .i64 z.d) from rfl); have c5 := (q1.cell 5).trans (show _ = some (Value.int .u64 (z.k : Int)) from rfl); have cl := q1.lt; clear q1)
            go_wp2_with fail
            exact hK.out _ _ ⟨_, rfl, hS, rfl, AllP.same _⟩
          refine RelySteps.cons (RelyStep.mk [10, 5] [0, 5, 6, 7, 8, 13, 14, 15, 16, 17, 18, 19, 20, 21, 22, 23, 24, 25, 26, 27, 28, 29, 30, 31, 32, 33, 34, 35, 36, 37, 38, 39] rfl rfl rfl (fun xv wS hS hV bq hb K hK => ?_)) ?_
          · obtain ⟨h10, h5, _⟩ := hV
            have h10 : xv 10 = _ := h10
            have h5 : xv 5 = _ := h5
            simp only [putsOf, List.foldl_cons, List.foldl_nil, List.getD_cons_zero, List.getD_cons_succ, List.getD_nil, cond_true, cond_false, Act.put, List.setIfInBounds_toArray, List.set_cons_zero, List.set_cons_succ, h10, h5] at hb
            clear h10
            clear h5
            subst hb
            rw [if_pos (by rfl)]
            go_wp2_with fail
            exact hK.out _ _ ⟨_, rfl, hS, rfl, AllP.same _⟩
          refine RelySteps.cons (RelyStep.mk [11, 5] [0, 5, 8, 17, 18, 20, 21, 22, 23, 24, 25, 26, 27, 28, 29, 30, 31, 32, 33, 34, 35, 36, 37, 38, 39] rfl rfl rfl (fun xv wS hS hV bq hb K hK => ?_)) ?_
          · obtain ⟨h11, h5, _⟩ := hV
            have h11 : xv 11 = _ := h11
            have h5 : xv 5 = _ := h5
            simp only [putsOf, List.foldl_cons, List.foldl_nil, List.getD_cons_zero, List.getD_cons_succ, List.getD_nil, cond_true, cond_false, Act.put, List.setIfInBounds_toArray, List.set_cons_zero, List.set_cons_succ, h11, h5] at hb
            clear h11
            clear h5
            subst hb
            rw [if_pos (by rfl)]
            go_wp2_with fail
            exact hK.out _ _ ⟨_, rfl, hS, rfl, AllP.same _⟩
          refine RelySteps.cons (RelyStep.mk [12] [0, 1, 2, 3, 5, 6, 8, 9, 12, 15, 16, 17, 18, 19, 20, 21, 22, 23, 24, 25, 26, 27, 28, 29, 30, 31, 32, 33, 34, 35, 36, 37, 38, 39] rfl rfl rfl (fun xv wS hS hV bq hb K hK => ?_)) ?_
          · obtain ⟨h12, _⟩ := hV
            have h12 : xv 12 = _ := h12
            simp only [putsOf, List.foldl_cons, List.foldl_nil, List.getD_cons_zero, List.getD_cons_succ, List.getD_nil, cond_true, cond_false, Act.put, List.setIfInBounds_toArray, List.set_cons_zero, List.set_cons_succ, h12] at hb
            clear h12
            subst hb
            first
              | (rw [if_pos (by rfl)]
                 go_wp2_with fail
                 exact hK.out _ _ ⟨_, rfl, hS, rfl, AllP.same _⟩)
              | (refine not_wanted (by rfl) ?_
                 exact hK.out _ _ ⟨undef, rfl, hS, rfl, AllP.same _⟩)
          refine RelySteps.cons (RelyStep.mk [13, 12] [0, 1, 2, 3, 5, 6, 8, 9, 12, 16, 17, 18, 19, 20, 21, 22, 23, 24, 25, 26, 27, 28, 29, 30, 31, 32, 33, 34, 35, 36, 37, 38, 39] rfl rfl rfl (fun xv wS hS hV bq hb K hK => ?_)) ?_
          · obtain ⟨h13, h12, _⟩ := hV
            have h13 : xv 13 = _ := h13
            have h12 : xv 12 = _ := h12
            simp only [putsOf, List.foldl_cons, List.foldl_nil, List.getD_cons_zero, List.getD_cons_succ, List.getD_nil, cond_true, cond_false, Act.put, List.setIfInBounds_toArray, List.set_cons_zero, List.set_cons_succ, h13, h12] at hb
            clear h13
            clear h12
            subst hb
            first
              | (rw [if_pos (by rfl)]
                 have q1 := HL.out.below hS HL.out.lt
                 have c0 := (q1.cell 0).trans (show _ = some (Value.int .i64 z.op) from rfl)
                 have c1 := (q1.cell 1).trans (show _ = some (Value.int .i64 z.a) from rfl)
                 have c2 := (q1.cell 2).trans (show _ = some (Value.int .i64 z.b) from rfl)
                 have c3 := (q1.cell 3).trans (show _ = some (Value.int .i64 z.c) from rfl)
                 have c4 := (q1.cell 4).trans (show _ = some (Value.int .i64 z.d) from rfl)
                 have c5 := (q1.cell 5).trans (show _ = some (Value.int .u64 (z.k : Int)) from rfl)
                 have cl := q1.lt
                 clear q1
                 go_wp2_with fail
                 exact hK.out _ _ ⟨_, rfl, hS, rfl, AllP.same _⟩)
              | (refine not_wanted (by rfl) ?_
                 exact hK.out _ _ ⟨undef, rfl, hS, rfl, AllP.same _⟩)
          refine RelySteps.cons (RelyStep.mk [14, 12] [0, 1, 2, 3, 5, 6, 8, 9, 12, 17, 18, 19, 20, 21, 22, 23, 24, 25, 26, 27, 28, 29, 30, 31, 32, 33, 34, 35, 36, 37, 38, 39] rfl rfl rfl (fun xv wS hS hV bq hb K hK => ?_)) ?_
          · obtain ⟨h14, h12, _⟩ := hV
            have h14 : xv 14 = _ := h14
            have h12 : xv 12 = _ := h12
            simp only [putsOf, List.foldl_cons, List.foldl_nil, List.getD_cons_zero, List.getD_cons_succ, List.getD_nil, cond_true, cond_false, Act.put, List.setIfInBounds_toArray, List.set_cons_zero, List.set_cons_succ, h14, h12] at hb
            clear h14
            clear h12
            subst hb
            first
              | (rw [if_pos (by rfl)]
                 go_wp2_with fail
                 exact hK.out _ _ ⟨_, rfl, hS, rfl, AllP.same _⟩)
              | (refine not_wanted (by rfl) ?_
                 exact hK.out _ _ ⟨undef, rfl, hS, rfl, AllP.same _⟩)
          refine RelySteps.cons (RelyStep.mk [12, 15, 5] [0, 5, 6, 8, 9, 12, 18, 19, 20, 21, 22, 23, 24, 25, 26, 27, 28, 29, 30, 31, 32, 33, 34, 35, 36, 37, 38, 39] rfl rfl rfl (fun xv wS hS hV bq hb K hK => ?_)) ?_
          · obtain ⟨h12, h15, h5, _⟩ := hV
            have h12 : xv 12 = _ := h12
            have h15 : xv 15 = _ := h15
            have h5 : xv 5 = _ := h5
            simp only [putsOf, List.foldl_cons, List.foldl_nil, List.getD_cons_zero, List.getD_cons_succ, List.getD_nil, cond_true, cond_false, Act.put, List.setIfInBounds_toArray, List.set_cons_zero, List.set_cons_succ, h12, h15, h5] at hb
            clear h12
            clear h15
            clear h5
            subst hb
            rw [if_pos (by rfl)]
            go_wp2_with fail
            exact hK.out _ _ ⟨_, rfl, hS, rfl, AllP.same _⟩
          refine RelySteps.cons (RelyStep.mk [8, 16, 5] [0, 5, 9, 10, 12, 13, 19, 20, 21, 22, 23, 24, 25, 26, 27, 28, 29, 30, 31, 32, 33, 34, 35, 36, 37, 38, 39] rfl rfl rfl (fun xv wS hS hV bq hb K hK => ?_)) ?_
          · obtain ⟨h8, h16, h5, _⟩ := hV
            have h8 : xv 8 = _ := h8
            have h16 : xv 16 = _ := h16
            have h5 : xv 5 = _ := h5
            simp only [putsOf, List.foldl_cons, List.foldl_nil, List.getD_cons_zero, List.getD_cons_succ, List.getD_nil, cond_true, cond_false, Act.put, List.setIfInBounds_toArray, List.set_cons_zero, List.set_cons_succ, h8, h16, h5] at hb
            clear h8
            clear h16
            clear h5
            subst hb
            rw [if_pos (by rfl)]
            go_wp2_with fail
            exact hK.out _ _ ⟨_, rfl, hS, rfl, AllP.same _⟩
          refine RelySteps.cons (RelyStep.mk [5, 17] [0, 5, 6, 9, 10, 11, 12, 13, 14, 20, 21, 22, 23, 24, 25, 26, 27, 28, 29, 30, 31, 32, 33, 34, 35, 36, 37, 38, 39] rfl rfl rfl (fun xv wS hS hV bq hb K hK => ?_)) ?_
          · obtain ⟨h5, h17, _⟩ := hV
            have h5 : xv 5 = _ := h5
            have h17 : xv 17 = _ := h17
            simp only [putsOf, List.foldl_cons, List.foldl_nil, List.getD_cons_zero, List.getD_cons_succ, List.getD_nil, cond_true, cond_false, Act.put, List.setIfInBounds_toArray, List.set_cons_zero, List.set_cons_succ, h5, h17] at hb
            clear h5
            clear h17
            subst hb
            rw [if_pos (by rfl)]
            go_wp2_with fail
            exact hK.out _ _ ⟨_, rfl, hS, rfl, AllP.same _⟩
          refine RelySteps.cons (RelyStep.mk [18] [0, 1, 2, 3, 5, 6, 9, 12, 13, 14, 15, 27, 28, 29, 33, 34, 35, 36, 37, 38, 39] rfl rfl rfl (fun xv wS hS hV bq hb K hK => ?_)) ?_
          · obtain ⟨h18, _⟩ := hV
            have h18 : xv 18 = _ := h18
            simp only [putsOf, List.foldl_cons, List.foldl_nil, List.getD_cons_zero, List.getD_cons_succ, List.getD_nil, cond_true, cond_false, Act.put, List.setIfInBounds_toArray, List.set_cons_zero, List.set_cons_succ, h18] at hb
            clear h18
            subst hb
            rw [if_pos (by rfl)]
            go_wp2_with fail
            exact hK.out _ _ ⟨_, rfl, hS, rfl, AllP.same _⟩
          refine RelySteps.cons (RelyStep.mk [19] [0, 1, 2, 3, 4, 5, 6, 7, 8, 9, 10, 12, 13, 14, 15, 16, 19, 22, 23, 24, 25, 26, 27, 28, 29, 30, 31, 32, 33, 34, 35, 36, 37, 38, 39] rfl rfl rfl (fun xv wS hS hV bq hb K hK => ?_)) ?_
          · obtain ⟨h19, _⟩ := hV
            have h19 : xv 19 = _ := h19
            simp only [putsOf, List.foldl_cons, List.foldl_nil, List.getD_cons_zero, List.getD_cons_succ, List.getD_nil, cond_true, cond_false, Act.put, List.setIfInBounds_toArray, List.set_cons_zero, List.set_cons_succ, h19] at hb
            clear h19
            subst hb
            rw [if_pos (by rfl)]
            go_wp2_with fail
            exact hK.out _ _ ⟨_, rfl, hS, rfl, AllP.same _⟩
          refine RelySteps.cons (RelyStep.mk [20, 19] [0, 1, 2, 3, 4, 5, 6, 7, 8, 9, 10, 12, 13, 14, 15, 16, 19, 23, 24, 25, 26, 27, 28, 29, 30, 31, 32, 33, 34, 35, 36, 37, 38, 39] rfl rfl rfl (fun xv wS hS hV bq hb K hK => ?_)) ?_
          · obtain ⟨h20, h19, _⟩ := hV
            have h20 : xv 20 = _ := h20
            have h19 : xv 19 = _ := h19
            simp only [putsOf, List.foldl_cons, List.foldl_nil, List.getD_cons_zero, List.getD_cons_succ, List.getD_nil, cond_true, cond_false, Act.put, List.setIfInBounds_toArray, List.set_cons_zero, List.set_cons_succ, h20, h19] at hb
            clear h20
            clear h19
            subst hb
            rw [if_pos (by rfl)]
            (have q1 := HL.out.below hS HL.out.lt; have c0 := (q1.cell 0).trans (show _ = some (Value.int .i64 z.op) from rfl); have c1 := (q1.cell 1).trans (show _ = some (Value.int .i64 z.a) from rfl); have c2 := (q1.cell 2).trans (show _ = some (Value.int .i64 z.b) from rfl); have c3 := (q1.cell 3).trans (show _ = some (Value.int .i64 z.c) from rfl); have c4 := (q1.cell 4).trans (show _ = some (Value.int .i64 z.d) from rfl); have c5 := (q1.cell 5).trans (show _ = some (Value.int .u64 (z.k : Int)) from rfl); have cl := q1.lt; clear q1)
            go_wp2_with fail
            exact hK.out _ _ ⟨_, rfl, hS, rfl, AllP.same _⟩
          refine RelySteps.cons (RelyStep.mk [21, 19] [0, 1, 2, 3, 4, 5, 6, 7, 8, 9, 10, 12, 13, 14, 15, 16, 19, 23, 24, 25, 27, 28, 29, 30, 32, 33, 34, 35, 36, 37, 38, 39] rfl rfl rfl (fun xv wS hS hV bq hb K hK => ?_)) ?_
          · obtain ⟨h21, h19, _⟩ := hV
            have h21 : xv 21 = _ := h21
            have h19 : xv 19 = _ := h19
            simp only [putsOf, List.foldl_cons, List.foldl_nil, List.getD_cons_zero, List.getD_cons_succ, List.getD_nil, cond_true, cond_false, Act.put, List.setIfInBounds_toArray, List.set_cons_zero, List.set_cons_succ, h21, h19] at hb
            clear h21
            clear h19
            subst hb
            rw [if_pos (by rfl)]
            have HSS := Lib.hid hS
            clear hS
            go_wp2_with fail
            refine (HSE.out _).mono ?_
            rintro e w9 ⟨rfl, rfl⟩
            exact hK.out _ _ ⟨_, rfl, HSS.out, rfl, AllP.same _⟩
          refine RelySteps.cons (RelyStep.mk [19] [0, 1, 2, 3, 4, 5, 6, 7, 8, 9, 10, 12, 13, 14, 15, 16, 19, 20, 21, 22, 25, 26, 27, 28, 29, 30, 31, 32, 33, 34, 35, 36, 37, 38, 39] rfl rfl rfl (fun xv wS hS hV bq hb K hK => ?_)) ?_
          · obtain ⟨h19, _⟩ := hV
            have h19 : xv 19 = _ := h19
            simp only [putsOf, List.foldl_cons, List.foldl_nil, List.getD_cons_zero, List.getD_cons_succ, List.getD_nil, cond_true, cond_false, Act.put, List.setIfInBounds_toArray, List.set_cons_zero, List.set_cons_succ, h19] at hb
            clear h19
            subst hb
            rw [if_pos (by rfl)]
            go_wp2_with fail
            exact hK.out _ _ ⟨_, rfl, hS, rfl, AllP.same _⟩
          refine RelySteps.cons (RelyStep.mk [23, 19] [0, 1, 2, 3, 4, 5, 6, 7, 8, 9, 10, 12, 13, 14, 15, 16, 19, 20, 21, 22, 26, 27, 28, 29, 30, 31, 32, 33, 34, 35, 36, 37, 38, 39] rfl rfl rfl (fun xv wS hS hV bq hb K hK => ?_)) ?_
          · obtain ⟨h23, h19, _⟩ := hV
            have h23 : xv 23 = _ := h23
            have h19 : xv 19 = _ := h19
            simp only [putsOf, List.foldl_cons, List.foldl_nil, List.getD_cons_zero, List.getD_cons_succ, List.getD_nil, cond_true, cond_false, Act.put, List.setIfInBounds_toArray, List.set_cons_zero, List.set_cons_succ, h23, h19] at hb
            clear h23
            clear h19
            subst hb
            rw [if_pos (by rfl)]
            (have q1 := HL.out.below hS HL.out.lt; have c0 := (q1.cell 0).trans (show _ = some (Value.int .i64 z.op) from rfl); have c1 := (q1.cell 1).trans (show _ = some (Value.int .i64 z.a) from rfl); have c2 := (q1.cell 2).trans (show _ = some (Value.int .i64 z.b) from rfl); have c3 := (q1.cell 3).trans (show _ = some (Value.int .i64 z.c) from rfl); have c4 := (q1.cell 4).trans (show _ = some (Value.int .i64 z.d) from rfl); have c5 := (q1.cell 5).trans (show _ = some (Value.int .u64 (z.k : Int)) from rfl); have cl := q1.lt; clear q1)
            go_wp2_with fail
            exact hK.out _ _ ⟨_, rfl, hS, rfl, AllP.same _⟩
          refine RelySteps.cons (RelyStep.mk [24, 19] [0, 1, 2, 3, 4, 5, 6, 7, 8, 9, 10, 12, 13, 14, 15, 16, 19, 20, 21, 22, 27, 28, 29, 30, 31, 32, 33, 34, 35, 36, 37, 38, 39] rfl rfl rfl (fun xv wS hS hV bq hb K hK => ?_)) ?_
          · obtain ⟨h24, h19, _⟩ := hV
            have h24 : xv 24 = _ := h24
            have h19 : xv 19 = _ := h19
            simp only [putsOf, List.foldl_cons, List.foldl_nil, List.getD_cons_zero, List.getD_cons_succ, List.getD_nil, cond_true, cond_false, Act.put, List.setIfInBounds_toArray, List.set_cons_zero, List.set_cons_succ, h24, h19] at hb
            clear h24
            clear h19
            subst hb
            rw [if_pos (by rfl)]
            go_wp2_with fail
            exact hK.out _ _ ⟨_, rfl, hS, rfl, AllP.same _⟩
          refine RelySteps.cons (RelyStep.mk [25, 19] [0, 1, 2, 3, 4, 5, 6, 7, 8, 9, 10, 12, 13, 14, 15, 16, 19, 22, 31, 32, 34, 35, 36, 37, 38, 39] rfl rfl rfl (fun xv wS hS hV bq hb K hK => ?_)) ?_
          · obtain ⟨h25, h19, _⟩ := hV
            have h25 : xv 25 = _ := h25
            have h19 : xv 19 = _ := h19
            simp only [putsOf, List.foldl_cons, List.foldl_nil, List.getD_cons_zero, List.getD_cons_succ, List.getD_nil, cond_true, cond_false, Act.put, List.setIfInBounds_toArray, List.set_cons_zero, List.set_cons_succ, h25, h19] at hb
            clear h25
            clear h19
            subst hb
            rw [if_pos (by rfl)]
            go_wp2_with fail
            exact hK.out _ _ ⟨_, rfl, hS, rfl, AllP.same _⟩
          refine RelySteps.cons (RelyStep.mk [26] [0, 1, 2, 3, 4, 5, 6, 7, 8, 9, 10, 11, 12, 13, 14, 15, 16, 17, 19, 20, 22, 23, 26, 29, 30, 31, 32, 33, 34, 35, 36, 37, 38, 39] rfl rfl rfl (fun xv wS hS hV bq hb K hK => ?_)) ?_
          · obtain ⟨h26, _⟩ := hV
            have h26 : xv 26 = _ := h26
            simp only [putsOf, List.foldl_cons, List.foldl_nil, List.getD_cons_zero, List.getD_cons_succ, List.getD_nil, cond_true, cond_false, Act.put, List.setIfInBounds_toArray, List.set_cons_zero, List.set_cons_succ, h26] at hb
            clear h26
            subst hb
            first
              | (rw [if_pos (by rfl)]
                 go_wp2_with fail
                 exact hK.out _ _ ⟨_, rfl, hS, rfl, AllP.same _⟩)
              | (refine not_wanted (by rfl) ?_
                 exact hK.out _ _ ⟨undef, rfl, hS, rfl, AllP.same _⟩)
          refine RelySteps.cons (RelyStep.mk [27, 26] [0, 1, 2, 3, 4, 5, 6, 7, 8, 9, 10, 11, 12, 13, 14, 15, 16, 17, 19, 20, 22, 23, 26, 30, 31, 32, 33, 34, 35, 36, 37, 38, 39] rfl rfl rfl (fun xv wS hS hV bq hb K hK => ?_)) ?_
          · obtain ⟨h27, h26, _⟩ := hV
            have h27 : xv 27 = _ := h27
            have h26 : xv 26 = _ := h26
            simp only [putsOf, List.foldl_cons, List.foldl_nil, List.getD_cons_zero, List.getD_cons_succ, List.getD_nil, cond_true, cond_false, Act.put, List.setIfInBounds_toArray, List.set_cons_zero, List.set_cons_succ, h27, h26] at hb
            clear h27
            clear h26
            subst hb
            first
              | (rw [if_pos (by rfl)]
                 have q1 := HL.out.below hS HL.out.lt
                 have c0 := (q1.cell 0).trans (show _ = some (Value.int .i64 z.op) from rfl)
                 have c1 := (q1.cell 1).trans (show _ = some (Value.int .i64 z.a) from rfl)
                 have c2 := (q1.cell 2).trans (show _ = some (Value.int .i64 z.b) from rfl)
                 have c3 := (q1.cell 3).trans (show _ = some (Value.int .i64 z.c) from rfl)
                 have c4 := (q1.cell 4).trans (show _ = some (Value.int .i64 z.d) from rfl)
                 have c5 := (q1.cell 5).trans (show _ = some (Value.int .u64 (z.k : Int)) from rfl)
                 have cl := q1.lt
                 clear q1
                 go_wp2_with fail
                 exact hK.out _ _ ⟨_, rfl, hS, rfl, AllP.same _⟩)
              | (refine not_wanted (by rfl) ?_
                 exact hK.out _ _ ⟨undef, rfl, hS, rfl, AllP.same _⟩)
          refine RelySteps.cons (RelyStep.mk [28, 26] [0, 1, 2, 3, 4, 5, 6, 7, 8, 9, 10, 11, 12, 13, 14, 15, 16, 17, 19, 20, 22, 23, 26, 31, 32, 33, 34, 35, 36, 37, 38, 39] rfl rfl rfl (fun xv wS hS hV bq hb K hK => ?_)) ?_
          · obtain ⟨h28, h26, _⟩ := hV
            have h28 : xv 28 = _ := h28
            have h26 : xv 26 = _ := h26
            simp only [putsOf, List.foldl_cons, List.foldl_nil, List.getD_cons_zero, List.getD_cons_succ, List.getD_nil, cond_true, cond_false, Act.put, List.setIfInBounds_toArray, List.set_cons_zero, List.set_cons_succ, h28, h26] at hb
            clear h28
            clear h26
            subst hb
            first
              | (rw [if_pos (by rfl)]
                 go_wp2_with fail
                 exact hK.out _ _ ⟨_, rfl, hS, rfl, AllP.same _⟩)
              | (refine not_wanted (by rfl) ?_
                 exact hK.out _ _ ⟨undef, rfl, hS, rfl, AllP.same _⟩)
          refine RelySteps.cons (RelyStep.mk [26, 29, 19] [0, 1, 2, 3, 4, 5, 6, 7, 8, 9, 10, 12, 13, 14, 15, 16, 19, 20, 22, 23, 26, 32, 33, 34, 35, 36, 37, 38, 39] rfl rfl rfl (fun xv wS hS hV bq hb K hK => ?_)) ?_
          · obtain ⟨h26, h29, h19, _⟩ := hV
            have h26 : xv 26 = _ := h26
            have h29 : xv 29 = _ := h29
            have h19 : xv 19 = _ := h19
            simp only [putsOf, List.foldl_cons, List.foldl_nil, List.getD_cons_zero, List.getD_cons_succ, List.getD_nil, cond_true, cond_false, Act.put, List.setIfInBounds_toArray, List.set_cons_zero, List.set_cons_succ, h26, h29, h19] at hb
            clear h26
            clear h29
            clear h19
            subst hb
            rw [if_pos (by rfl)]
            go_wp2_with fail
            exact hK.out _ _ ⟨_, rfl, hS, rfl, AllP.same _⟩
          refine RelySteps.cons (RelyStep.mk [22, 30, 19] [0, 1, 2, 3, 4, 5, 6, 7, 8, 9, 10, 12, 13, 14, 15, 16, 19, 23, 24, 26, 27, 33, 34, 35, 36, 37, 38, 39] rfl rfl rfl (fun xv wS hS hV bq hb K hK => ?_)) ?_
          · obtain ⟨h22, h30, h19, _⟩ := hV
            have h22 : xv 22 = _ := h22
            have h30 : xv 30 = _ := h30
            have h19 : xv 19 = _ := h19
            simp only [putsOf, List.foldl_cons, List.foldl_nil, List.getD_cons_zero, List.getD_cons_succ, List.getD_nil, cond_true, cond_false, Act.put, List.setIfInBounds_toArray, List.set_cons_zero, List.set_cons_succ, h22, h30, h19] at hb
            clear h22
            clear h30
            clear h19
            subst hb
            rw [if_pos (by rfl)]
            go_wp2_with fail
            exact hK.out _ _ ⟨_, rfl, hS, rfl, AllP.same _⟩
          refine RelySteps.cons (RelyStep.mk [19, 31] [0, 1, 2, 3, 4, 5, 6, 7, 8, 9, 10, 12, 13, 14, 15, 16, 19, 20, 23, 24, 25, 26, 27, 28, 34, 35, 36, 37, 38, 39] rfl rfl rfl (fun xv wS hS hV bq hb K hK => ?_)) ?_
          · obtain ⟨h19, h31, _⟩ := hV
            have h19 : xv 19 = _ := h19
            have h31 : xv 31 = _ := h31
            simp only [putsOf, List.foldl_cons, List.foldl_nil, List.getD_cons_zero, List.getD_cons_succ, List.getD_nil, cond_true, cond_false, Act.put, List.setIfInBounds_toArray, List.set_cons_zero, List.set_cons_succ, h19, h31] at hb
            clear h19
            clear h31
            subst hb
            rw [if_pos (by rfl)]
            go_wp2_with fail
            exact hK.out _ _ ⟨_, rfl, hS, rfl, AllP.same _⟩
          refine RelySteps.cons (RelyStep.mk [32] [0, 1, 2, 3, 4, 5, 6, 7, 8, 9, 10, 11, 12, 13, 14, 15, 16, 17, 19, 20, 23, 26, 27, 28, 29] rfl rfl rfl (fun xv wS hS hV bq hb K hK => ?_)) ?_
          · obtain ⟨h32, _⟩ := hV
            have h32 : xv 32 = _ := h32
            simp only [putsOf, List.foldl_cons, List.foldl_nil, List.getD_cons_zero, List.getD_cons_succ, List.getD_nil, cond_true, cond_false, Act.put, List.setIfInBounds_toArray, List.set_cons_zero, List.set_cons_succ, h32] at hb
            clear h32
            subst hb
            rw [if_pos (by rfl)]
            go_wp2_with fail
            exact hK.out _ _ ⟨_, rfl, hS, rfl, AllP.same _⟩
          refine RelySteps.cons (RelyStep.mk [33] [0, 1, 2, 3, 4, 5, 6, 7, 8, 9, 10, 11, 12, 13, 14, 15, 16, 17, 18, 19, 20, 21, 22, 23, 24, 26, 27, 28, 29, 30, 33, 36, 37, 38, 39] rfl rfl rfl (fun xv wS hS hV bq hb K hK => ?_)) ?_
          · obtain ⟨h33, _⟩ := hV
            have h33 : xv 33 = _ := h33
            simp only [putsOf, List.foldl_cons, List.foldl_nil, List.getD_cons_zero, List.getD_cons_succ, List.getD_nil, cond_true, cond_false, Act.put, List.setIfInBounds_toArray, List.set_cons_zero, List.set_cons_succ, h33] at hb
            clear h33
            subst hb
            rw [if_pos (by rfl)]
            (have q1 := HL.out.below hS HL.out.lt; have c0 := (q1.cell 0).trans (show _ = some (Value.int .i64 z.op) from rfl); have c1 := (q1.cell 1).trans (show _ = some (Value.int .i64 z.a) from rfl); have c2 := (q1.cell 2).trans (show _ = some (Value.int .i64 z.b) from rfl); have c3 := (q1.cell 3).trans (show _ = some (Value.int .i64 z.c) from rfl); have c4 := (q1.cell 4).trans (show _ = some (Value.int .i64 z.d) from rfl); have c5 := (q1.cell 5).trans (show _ = some (Value.int .u64 (z.k : Int)) from rfl); have cl := q1.lt; clear q1)
            go_wp2_with fail
            exact hK.out _ _ ⟨_, rfl, hS, rfl, AllP.same _⟩
          refine RelySteps.cons (RelyStep.mk [34, 33] [0, 1, 2, 3, 4, 5, 6, 7, 8, 9, 10, 11, 12, 13, 14, 15, 16, 17, 18, 19, 20, 21, 22, 23, 24, 26, 27, 28, 29, 30, 33, 36, 39] rfl rfl rfl (fun xv wS hS hV bq hb K hK => ?_)) ?_
          · obtain ⟨h34, h33, _⟩ := hV
            have h34 : xv 34 = _ := h34
            have h33 : xv 33 = _ := h33
            simp only [putsOf, List.foldl_cons, List.foldl_nil, List.getD_cons_zero, List.getD_cons_succ, List.getD_nil, cond_true, cond_false, Act.put, List.setIfInBounds_toArray, List.set_cons_zero, List.set_cons_succ, h34, h33] at hb
            clear h34
            clear h33
            subst hb
            rw [if_pos (by rfl)]
            have HSS := Lib.hid hS
            clear hS
            go_wp2_with fail
            refine (HRI.out _).mono ?_
            rintro e w9 ⟨rfl, hb⟩
            exact hK.out _ _ ⟨_, rfl, HSS.out.trans (hb.mono HSS.out.size), rfl, AllP.of _ (fun j _ u h => tlV_all h)⟩
          refine RelySteps.cons (RelyStep.mk [33] [0, 1, 2, 3, 4, 5, 6, 7, 8, 9, 10, 11, 12, 13, 14, 15, 16, 17, 18, 19, 20, 21, 22, 23, 24, 26, 27, 28, 29, 30, 33, 34, 35, 38, 39] rfl rfl rfl (fun xv wS hS hV bq hb K hK => ?_)) ?_
          · obtain ⟨h33, _⟩ := hV
            have h33 : xv 33 = _ := h33
            simp only [putsOf, List.foldl_cons, List.foldl_nil, List.getD_cons_zero, List.getD_cons_succ, List.getD_nil, cond_true, cond_false, Act.put, List.setIfInBounds_toArray, List.set_cons_zero, List.set_cons_succ, h33] at hb
            clear h33
            subst hb
            rw [if_pos (by rfl)]
            (have q1 := HL.out.below hS HL.out.lt; have c0 := (q1.cell 0).trans (show _ = some (Value.int .i64 z.op) from rfl); have c1 := (q1.cell 1).trans (show _ = some (Value.int .i64 z.a) from rfl); have c2 := (q1.cell 2).trans (show _ = some (Value.int .i64 z.b) from rfl); have c3 := (q1.cell 3).trans (show _ = some (Value.int .i64 z.c) from rfl); have c4 := (q1.cell 4).trans (show _ = some (Value.int .i64 z.d) from rfl); have c5 := (q1.cell 5).trans (show _ = some (Value.int .u64 (z.k : Int)) from rfl); have cl := q1.lt; clear q1)
            go_wp2_with fail
            exact hK.out _ _ ⟨_, rfl, hS, rfl, AllP.same _⟩
          refine RelySteps.cons (RelyStep.mk [36, 33] [0, 1, 2, 3, 4, 5, 6, 7, 8, 9, 10, 11, 12, 13, 14, 15, 16, 17, 18, 19, 20, 21, 22, 23, 24, 26, 27, 28, 29, 30, 33, 35, 39] rfl rfl rfl (fun xv wS hS hV bq hb K hK => ?_)) ?_
          · obtain ⟨h36, h33, _⟩ := hV
            have h36 : xv 36 = _ := h36
            have h33 : xv 33 = _ := h33
            simp only [putsOf, List.foldl_cons, List.foldl_nil, List.getD_cons_zero, List.getD_cons_succ, List.getD_nil, cond_true, cond_false, Act.put, List.setIfInBounds_toArray, List.set_cons_zero, List.set_cons_succ, h36, h33] at hb
            clear h36
            clear h33
            subst hb
            rw [if_pos (by rfl)]
            have HSS := Lib.hid hS
            clear hS
            go_wp2_with fail
            refine (HRR.out _).mono ?_
            rintro e w9 ⟨rfl, hb⟩
            exact hK.out _ _ ⟨_, rfl, HSS.out.trans (hb.mono HSS.out.size), rfl, AllP.of _ (fun j _ u h => tlV_all h)⟩
          refine RelySteps.cons (RelyStep.mk [35, 37, 33] [0, 1, 2, 3, 4, 5, 6, 7, 8, 9, 10, 11, 12, 13, 14, 15, 16, 17, 18, 19, 20, 21, 22, 23, 24, 26, 27, 28, 29, 30, 33] rfl rfl rfl (fun xv wS hS hV bq hb K hK => ?_)) ?_
          · obtain ⟨h35, h37, h33, _⟩ := hV
            have h35 : xv 35 = _ := h35
            have h37 : xv 37 = _ := h37
            have h33 : xv 33 = _ := h33
            simp only [putsOf, List.foldl_cons, List.foldl_nil, List.getD_cons_zero, List.getD_cons_succ, List.getD_nil, cond_true, cond_false, Act.put, List.setIfInBounds_toArray, List.set_cons_zero, List.set_cons_succ, h35, h37, h33] at hb
            clear h35
            clear h37
            clear h33
            subst hb
            rw [if_pos (by rfl)]
            go_wp2_with fail
            exact hK.out _ _ ⟨_, rfl, hS, rfl, AllP.same _⟩
          refine RelySteps.cons (RelyStep.mk [33, 38] [0, 1, 2, 3, 4, 5, 6, 7, 8, 9, 10, 11, 12, 13, 14, 15, 16, 17, 18, 19, 20, 21, 22, 23, 24, 26, 27, 28, 29, 30, 33] rfl rfl rfl (fun xv wS hS hV bq hb K hK => ?_)) ?_
          · obtain ⟨h33, h38, _⟩ := hV
            have h33 : xv 33 = _ := h33
            have h38 : xv 38 = _ := h38
            simp only [putsOf, List.foldl_cons, List.foldl_nil, List.getD_cons_zero, List.getD_cons_succ, List.getD_nil, cond_true, cond_false, Act.put, List.setIfInBounds_toArray, List.set_cons_zero, List.set_cons_succ, h33, h38] at hb
            clear h33
            clear h38
            subst hb
            rw [if_pos (by rfl)]
            go_wp2_with fail
            exact hK.out _ _ ⟨_, rfl, hS, rfl, AllP.same _⟩
          refine RelySteps.cons (RelyStep.mk [39] [] rfl rfl rfl (fun xv wS hS hV bq hb K hK => ?_)) ?_
          · obtain ⟨h39, _⟩ := hV
            have h39 : xv 39 = _ := h39
            simp only [putsOf, List.foldl_cons, List.foldl_nil, List.getD_cons_zero, List.getD_cons_succ, List.getD_nil, cond_true, cond_false, Act.put, List.setIfInBounds_toArray, List.set_cons_zero, List.set_cons_succ, h39] at hb
            clear h39
            subst hb
            rw [if_pos (by rfl)]
            go_wp2_with fail
            exact hK.out _ _ ⟨_, rfl, hS, rfl, AllP.same _⟩
          exact RelySteps.nil
        case rE =>
          intro xv wE hS hV
          have h40 := hV 40 (by decide) (by decide)
          clear hV
          simp only [putsOf, List.foldl_cons, List.foldl_nil, List.getD_cons_zero, List.getD_cons_succ, List.getD_nil, cond_true, cond_false, Act.put, List.setIfInBounds_toArray, List.set_cons_zero, List.set_cons_succ]
          have h40 : xv 40 = _ := h40
          rw [h40]; clear h40
          generalize xv 0 = y0 at *
          generalize xv 1 = y1 at *
          generalize xv 2 = y2 at *
          generalize xv 3 = y3 at *
          generalize xv 4 = y4 at *
          generalize xv 5 = y5 at *
          generalize xv 6 = y6 at *
          generalize xv 7 = y7 at *
          generalize xv 8 = y8 at *
          generalize xv 9 = y9 at *
          generalize xv 10 = y10 at *
          generalize xv 11 = y11 at *
          generalize xv 12 = y12 at *
          generalize xv 13 = y13 at *
          generalize xv 14 = y14 at *
          generalize xv 15 = y15 at *
          generalize xv 16 = y16 at *
          generalize xv 17 = y17 at *
          generalize xv 18 = y18 at *
          generalize xv 19 = y19 at *
          generalize xv 20 = y20 at *
          generalize xv 21 = y21 at *
          generalize xv 22 = y22 at *
          generalize xv 23 = y23 at *
          generalize xv 24 = y24 at *
          generalize xv 25 = y25 at *
          generalize xv 26 = y26 at *
          generalize xv 27 = y27 at *
          generalize xv 28 = y28 at *
          generalize xv 29 = y29 at *
          generalize xv 30 = y30 at *
          generalize xv 31 = y31 at *
          generalize xv 32 = y32 at *
          generalize xv 33 = y33 at *
          generalize xv 34 = y34 at *
          generalize xv 35 = y35 at *
          generalize xv 36 = y36 at *
          generalize xv 37 = y37 at *
          generalize xv 38 = y38 at *
          generalize xv 39 = y39 at *
          have HS9 := Lib.hid hS
          clear hS
          go_wp2
          go_ret
          exact ⟨rfl, HB.out.trans (HS9.out.mono HB.out.size)⟩
      case true =>
        go_wp2_with fail
        refine wp_region_rely (fun q => Below wc.heap.size wc q) (tlV W.heap.size (nmB z.op) z true P17 true Q25 rb) [some 63, some 64, some 65, some 66, some 67, some 68, some 69, some 70, some 71, some 72, some 73, some 74, some 75, some 76, some 77, some 78, some 79, some 80, some 81, some 82, some 83, some 84, some 85, some 86, some 87, some 88, some 89, some 90, some 91, some 92, some 93, some 94, some 95, some 96, some 97, some 98, some 99, some 100, some 101, some 102, some 4] [[], [0], [1], [], [2, 3], [4], [5], [6, 5], [7, 5], [5], [9, 5], [10, 5], [11, 5], [12], [13, 12], [14, 12], [12, 15, 5], [8, 16, 5], [5, 17], [18], [19], [20, 19], [21, 19], [19], [23, 19], [24, 19], [25, 19], [26], [27, 26], [28, 26], [26, 29, 19], [22, 30, 19], [19, 31], [32], [33], [34, 33], [33], [36, 33], [35, 37, 33], [33, 38], [39]] [[], [0], [0, 1], [], [1, 2, 3], [1, 2, 3, 4], [4], [4, 6], [4, 6, 7], [4], [4, 9], [4, 9, 10], [4, 7, 10, 11], [11], [11, 13], [11, 13, 14], [4, 11, 14, 15], [4, 7, 8, 15, 16], [4, 8, 16, 17], [11, 17, 18], [18], [18, 20], [18, 20, 21], [18], [18, 23], [18, 23, 24], [18, 21, 24, 25], [25], [25, 27], [25, 27, 28], [18, 25, 28, 29], [18, 21, 22, 29, 30], [18, 22, 30, 31], [25, 31, 32], [32], [32, 34], [32], [32, 34, 36], [32, 34, 35, 36, 37], [32, 35, 37, 38], [0, 1, 2, 3, 4, 5, 6, 7, 8, 9, 10, 11, 12, 13, 14, 15, 16, 17, 18, 19, 20, 21, 22, 23, 24, 25, 26, 27, 28, 29, 30, 31, 32, 33, 34, 35, 36, 37, 38, 39]] [[2, 3, 4, 5, 6, 7, 8, 9, 10, 11, 12, 13, 14, 15, 16, 17, 18, 19, 20, 21, 22, 23, 24, 25, 26, 27, 28, 29, 30, 31, 32, 33, 34, 35, 36, 37, 38, 39], [3, 4, 5, 6, 7, 8, 9, 10, 11, 12, 13, 14, 15, 16, 17, 18, 19, 20, 21, 22, 23, 24, 25, 26, 27, 28, 29, 30, 31, 32, 33, 34, 35, 36, 37, 38, 39], [3, 6, 7, 8, 9, 10, 11, 12, 13, 14, 15, 16, 17, 18, 19, 20, 21, 22, 23, 24, 25, 26, 27, 28, 29, 30, 31, 32, 33, 34, 35, 36, 37, 38, 39], [0, 1, 2, 5, 6, 7, 8, 9, 10, 11, 12, 13, 14, 15, 16, 17, 18, 19, 20, 21, 22, 23, 24, 25, 26, 27, 28, 29, 30, 31, 32, 33, 34, 35, 36, 37, 38, 39], [6, 7, 8, 9, 10, 11, 12, 13, 14, 15, 16, 17, 18, 19, 20, 21, 22, 23, 24, 25, 26, 27, 28, 29, 30, 31, 32, 33, 34, 35, 36, 37, 38, 39], [13, 14, 15, 19, 20, 21, 22, 23, 24, 25, 26, 27, 28, 29, 30, 31, 32, 33, 34, 35, 36, 37, 38, 39], [0, 5, 8, 9, 10, 11, 12, 13, 14, 15, 16, 17, 18, 19, 20, 21, 22, 23, 24, 25, 26, 27, 28, 29, 30, 31, 32, 33, 34, 35, 36, 37, 38, 39], [0, 5, 9, 10, 11, 12, 13, 14, 15, 16, 17, 18, 19, 20, 21, 22, 23, 24, 25, 26, 27, 28, 29, 30, 31, 32, 33, 34, 35, 36, 37, 38, 39], [0, 5, 9, 10, 11, 13, 14, 15, 16, 18, 19, 20, 21, 22, 23, 24, 25, 26, 27, 28, 29, 30, 31, 32, 33, 34, 35, 36, 37, 38, 39], [0, 5, 6, 7, 8, 11, 12, 13, 14, 15, 16, 17, 18, 19, 20, 21, 22, 23, 24, 25, 26, 27, 28, 29, 30, 31, 32, 33, 34, 35, 36, 37, 38, 39], [0, 5, 6, 7, 8, 12, 13, 14, 15, 16, 17, 18, 19, 20, 21, 22, 23, 24, 25, 26, 27, 28, 29, 30, 31, 32, 33, 34, 35, 36, 37, 38, 39], [0, 5, 6, 7, 8, 13, 14, 15, 16, 17, 18, 19, 20, 21, 22, 23, 24, 25, 26, 27, 28, 29, 30, 31, 32, 33, 34, 35, 36, 37, 38, 39], [0, 5, 8, 17, 18, 20, 21, 22, 23, 24, 25, 26, 27, 28, 29, 30, 31, 32, 33, 34, 35, 36, 37, 38, 39], [0, 1, 2, 3, 5, 6, 8, 9, 12, 15, 16, 17, 18, 19, 20, 21, 22, 23, 24, 25, 26, 27, 28, 29, 30, 31, 32, 33, 34, 35, 36, 37, 38, 39], [0, 1, 2, 3, 5, 6, 8, 9, 12, 16, 17, 18, 19, 20, 21, 22, 23, 24, 25, 26, 27, 28, 29, 30, 31, 32, 33, 34, 35, 36, 37, 38, 39], [0, 1, 2, 3, 5, 6, 8, 9, 12, 17, 18, 19, 20, 21, 22, 23, 24, 25, 26, 27, 28, 29, 30, 31, 32, 33, 34, 35, 36, 37, 38, 39], [0, 5, 6, 8, 9, 12, 18, 19, 20, 21, 22, 23, 24, 25, 26, 27, 28, 29, 30, 31, 32, 33, 34, 35, 36, 37, 38, 39], [0, 5, 9, 10, 12, 13, 19, 20, 21, 22, 23, 24, 25, 26, 27, 28, 29, 30, 31, 32, 33, 34, 35, 36, 37, 38, 39], [0, 5, 6, 9, 10, 11, 12, 13, 14, 20, 21, 22, 23, 24, 25, 26, 27, 28, 29, 30, 31, 32, 33, 34, 35, 36, 37, 38, 39], [0, 1, 2, 3, 5, 6, 9, 12, 13, 14, 15, 27, 28, 29, 33, 34, 35, 36, 37, 38, 39], [0, 1, 2, 3, 4, 5, 6, 7, 8, 9, 10, 12, 13, 14, 15, 16, 19, 22, 23, 24, 25, 26, 27, 28, 29, 30, 31, 32, 33, 34, 35, 36, 37, 38, 39], [0, 1, 2, 3, 4, 5, 6, 7, 8, 9, 10, 12, 13, 14, 15, 16, 19, 23, 24, 25, 26, 27, 28, 29, 30, 31, 32, 33, 34, 35, 36, 37, 38, 39], [0, 1, 2, 3, 4, 5, 6, 7, 8, 9, 10, 12, 13, 14, 15, 16, 19, 23, 24, 25, 27, 28, 29, 30, 32, 33, 34, 35, 36, 37, 38, 39], [0, 1, 2, 3, 4, 5, 6, 7, 8, 9, 10, 12, 13, 14, 15, 16, 19, 20, 21, 22, 25, 26, 27, 28, 29, 30, 31, 32, 33, 34, 35, 36, 37, 38, 39], [0, 1, 2, 3, 4, 5, 6, 7, 8, 9, 10, 12, 13, 14, 15, 16, 19, 20, 21, 22, 26, 27, 28, 29, 30, 31, 32, 33, 34, 35, 36, 37, 38, 39], [0, 1, 2, 3, 4, 5, 6, 7, 8, 9, 10, 12, 13, 14, 15, 16, 19, 20, 21, 22, 27, 28, 29, 30, 31, 32, 33, 34, 35, 36, 37, 38, 39], [0, 1, 2, 3, 4, 5, 6, 7, 8, 9, 10, 12, 13, 14, 15, 16, 19, 22, 31, 32, 34, 35, 36, 37, 38, 39], [0, 1, 2, 3, 4, 5, 6, 7, 8, 9, 10, 11, 12, 13, 14, 15, 16, 17, 19, 20, 22, 23, 26, 29, 30, 31, 32, 33, 34, 35, 36, 37, 38, 39], [0, 1, 2, 3, 4, 5, 6, 7, 8, 9, 10, 11, 12, 13, 14, 15, 16, 17, 19, 20, 22, 23, 26, 30, 31, 32, 33, 34, 35, 36, 37, 38, 39], [0, 1, 2, 3, 4, 5, 6, 7, 8, 9, 10, 11, 12, 13, 14, 15, 16, 17, 19, 20, 22, 23, 26, 31, 32, 33, 34, 35, 36, 37, 38, 39], [0, 1, 2, 3, 4, 5, 6, 7, 8, 9, 10, 12, 13, 14, 15, 16, 19, 20, 22, 23, 26, 32, 33, 34, 35, 36, 37, 38, 39], [0, 1, 2, 3, 4, 5, 6, 7, 8, 9, 10, 12, 13, 14, 15, 16, 19, 23, 24, 26, 27, 33, 34, 35, 36, 37, 38, 39], [0, 1, 2, 3, 4, 5, 6, 7, 8, 9, 10, 12, 13, 14, 15, 16, 19, 20, 23, 24, 25, 26, 27, 28, 34, 35, 36, 37, 38, 39], [0, 1, 2, 3, 4, 5, 6, 7, 8, 9, 10, 11, 12, 13, 14, 15, 16, 17, 19, 20, 23, 26, 27, 28, 29], [0, 1, 2, 3, 4, 5, 6, 7, 8, 9, 10, 11, 12, 13, 14, 15, 16, 17, 18, 19, 20, 21, 22, 23, 24, 26, 27, 28, 29, 30, 33, 36, 37, 38, 39], [0, 1, 2, 3, 4, 5, 6, 7, 8, 9, 10, 11, 12, 13, 14, 15, 16, 17, 18, 19, 20, 21, 22, 23, 24, 26, 27, 28, 29, 30, 33, 36, 39], [0, 1, 2, 3, 4, 5, 6, 7, 8, 9, 10, 11, 12, 13, 14, 15, 16, 17, 18, 19, 20, 21, 22, 23, 24, 26, 27, 28, 29, 30, 33, 34, 35, 38, 39], [0, 1, 2, 3, 4, 5, 6, 7, 8, 9, 10, 11, 12, 13, 14, 15, 16, 17, 18, 19, 20, 21, 22, 23, 24, 26, 27, 28, 29, 30, 33, 35, 39], [0, 1, 2, 3, 4, 5, 6, 7, 8, 9, 10, 11, 12, 13, 14, 15, 16, 17, 18, 19, 20, 21, 22, 23, 24, 26, 27, 28, 29, 30, 33], [0, 1, 2, 3, 4, 5, 6, 7, 8, 9, 10, 11, 12, 13, 14, 15, 16, 17, 18, 19, 20, 21, 22, 23, 24, 26, 27, 28, 29, 30, 33], []] [0, 1, 2, 3, 4, 5, 6, 7, 8, 9, 10, 11, 12, 13, 14, 15, 16, 17, 18, 19, 20, 21, 22, 23, 24, 25, 26, 27, 28, 29, 30, 31, 32, 33, 34, 35, 36, 37, 38, 39, 40] 41 (by kernel_rfl) (by kernel_rfl) (by kernel_rfl) (by kernel_rfl) ?rS (fun j h1 h2 => absurd (Nat.lt_of_lt_of_le h1 (Nat.le_trans (by decide) h2)) (Nat.lt_irrefl _)) ?rT ?rE
        case rS => exact below_drewN (Below.refl _ _) 1
        case rT =>
          refine RelySteps.cons (RelyStep.mk [] [2, 3, 4, 5, 6, 7, 8, 9, 10, 11, 12, 13, 14, 15, 16, 17, 18, 19, 20, 21, 22, 23, 24, 25, 26, 27, 28, 29, 30, 31, 32, 33, 34, 35, 36, 37, 38, 39] rfl rfl rfl (fun xv wS hS hV bq hb K hK => ?_)) ?_
          · clear hV
            simp only [putsOf, List.foldl_cons, List.foldl_nil, List.getD_cons_zero, List.getD_cons_succ, List.getD_nil, cond_true, cond_false, Act.put, List.setIfInBounds_toArray, List.set_cons_zero, List.set_cons_succ] at hb
            subst hb
            rw [if_pos (by rfl)]
            go_wp2_with fail
            exact hK.out _ _ ⟨_, rfl, hS, rfl, AllP.same _⟩
          refine RelySteps.cons (RelyStep.mk [0] [3, 4, 5, 6, 7, 8, 9, 10, 11, 12, 13, 14, 15, 16, 17, 18, 19, 20, 21, 22, 23, 24, 25, 26, 27, 28, 29, 30, 31, 32, 33, 34, 35, 36, 37, 38, 39] rfl rfl rfl (fun xv wS hS hV bq hb K hK => ?_)) ?_
          · obtain ⟨h0, _⟩ := hV
            have h0 : xv 0 = _ := h0
            simp only [putsOf, List.foldl_cons, List.foldl_nil, List.getD_cons_zero, List.getD_cons_succ, List.getD_nil, cond_true, cond_false, Act.put, List.setIfInBounds_toArray, List.set_cons_zero, List.set_cons_succ, h0] at hb
            clear h0
            subst hb
            rw [if_pos (by rfl)]
            (have q1 := HL.out.below hS HL.out.lt; have c0 := (q1.cell 0).trans (show _ = some (Value.int .i64 z.op) from rfl); have c1 := (q1.cell 1).trans (show _ = some (Value.int .i64 z.a) from rfl); have c2 := (q1.cell 2).trans (show _ = some (Value.int .i64 z.b) from rfl); have c3 := (q1.cell 3).trans (show _ = some (Value.int .i64 z.c) from rfl); have c4 := (q1.cell 4).trans (show _ = some (Value.int .i64 z.d) from rfl); have c5 := (q1.cell 5).trans (show _ = some (Value.int .u64 (z.k : Int)) from rfl); have cl := q1.lt; clear q1)
            go_wp2_with fail
            exact hK.out _ _ ⟨_, rfl, hS, rfl, AllP.same _⟩
          refine RelySteps.cons (RelyStep.mk [1] [3, 6, 7, 8, 9, 10, 11, 12, 13, 14, 15, 16, 17, 18, 19, 20, 21, 22, 23, 24, 25, 26, 27, 28, 29, 30, 31, 32, 33, 34, 35, 36, 37, 38, 39] rfl rfl rfl (fun xv wS hS hV bq hb K hK => ?_)) ?_
          · obtain ⟨h1, _⟩ := hV
            have h1 : xv 1 = _ := h1
            simp only [putsOf, List.foldl_cons, List.foldl_nil, List.getD_cons_zero, List.getD_cons_succ, List.getD_nil, cond_true, cond_false, Act.put, List.setIfInBounds_toArray, List.set_cons_zero, List.set_cons_succ, h1] at hb
            clear h1
            subst hb
            rw [if_pos (by rfl)]
            have HSS := Lib.hid hS
            clear hS
            go_wp2_with fail
            refine (name_any z.op _ (HN.out.later (HB.out.trans (HSS.out.mono HB.out.size)) hgl)).mono ?_
            rintro e w9 ⟨rfl, rfl⟩
            exact hK.out _ _ ⟨_, rfl, HSS.out, rfl, AllP.same _⟩
          refine RelySteps.cons (RelyStep.mk [] [0, 1, 2, 5, 6, 7, 8, 9, 10, 11, 12, 13, 14, 15, 16, 17, 18, 19, 20, 21, 22, 23, 24, 25, 26, 27, 28, 29, 30, 31, 32, 33, 34, 35, 36, 37, 38, 39] rfl rfl rfl (fun xv wS hS hV bq hb K hK => ?_)) ?_
          · clear hV
            simp only [putsOf, List.foldl_cons, List.foldl_nil, List.getD_cons_zero, List.getD_cons_succ, List.getD_nil, cond_true, cond_false, Act.put, List.setIfInBounds_toArray, List.set_cons_zero, List.set_cons_succ] at hb
            subst hb
            rw [if_pos (by rfl)]
            go_wp2_with fail
            exact hK.out _ _ ⟨_, rfl, hS, rfl, AllP.same _⟩
          refine RelySteps.cons (RelyStep.mk [2, 3] [6, 7, 8, 9, 10, 11, 12, 13, 14, 15, 16, 17, 18, 19, 20, 21, 22, 23, 24, 25, 26, 27, 28, 29, 30, 31, 32, 33, 34, 35, 36, 37, 38, 39] rfl rfl rfl (fun xv wS hS hV bq hb K hK => ?_)) ?_
          · obtain ⟨h2, h3, _⟩ := hV
            have h2 : xv 2 = _ := h2
            have h3 : xv 3 = _ := h3
            simp only [putsOf, List.foldl_cons, List.foldl_nil, List.getD_cons_zero, List.getD_cons_succ, List.getD_nil, cond_true, cond_false, Act.put, List.setIfInBounds_toArray, List.set_cons_zero, List.set_cons_succ, h2, h3] at hb
            clear h2
            clear h3
            subst hb
            rw [if_pos (by rfl)]
            go_wp2_with fail
            exact hK.out _ _ ⟨_, rfl, hS, rfl, AllP.same _⟩
          refine RelySteps.cons (RelyStep.mk [4] [13, 14, 15, 19, 20, 21, 22, 23, 24, 25, 26, 27, 28, 29, 30, 31, 32, 33, 34, 35, 36, 37, 38, 39] rfl rfl rfl (fun xv wS hS hV bq hb K hK => ?_)) ?_
          · obtain ⟨h4, _⟩ := hV
            have h4 : xv 4 = _ := h4
            simp only [putsOf, List.foldl_cons, List.foldl_nil, List.getD_cons_zero, List.getD_cons_succ, List.getD_nil, cond_true, cond_false, Act.put, List.setIfInBounds_toArray, List.set_cons_zero, List.set_cons_succ, h4] at hb
            clear h4
            subst hb
            rw [if_pos (by rfl)]
            go_wp2_with fail
            exact hK.out _ _ ⟨_, rfl, hS, rfl, AllP.same _⟩
          refine RelySteps.cons (RelyStep.mk [5] [0, 5, 8, 9, 10, 11, 12, 13, 14, 15, 16, 17, 18, 19, 20, 21, 22, 23, 24, 25, 26, 27, 28, 29, 30, 31, 32, 33, 34, 35, 36, 37, 38, 39] rfl rfl rfl (fun xv wS hS hV bq hb K hK => ?_)) ?_
          · obtain ⟨h5, _⟩ := hV
            have h5 : xv 5 = _ := h5
            simp only [putsOf, List.foldl_cons, List.foldl_nil, List.getD_cons_zero, List.getD_cons_succ, List.getD_nil, cond_true, cond_false, Act.put, List.setIfInBounds_toArray, List.set_cons_zero, List.set_cons_succ, h5] at hb
            clear h5
            subst hb
            rw [if_pos (by rfl)]
            go_wp2_with fail
            exact hK.out _ _ ⟨_, rfl, hS, rfl, AllP.same _⟩
          refine RelySteps.cons (RelyStep.mk [6, 5] [0, 5, 9, 10, 11, 12, 13, 14, 15, 16, 17, 18, 19, 20, 21, 22, 23, 24, 25, 26, 27, 28, 29, 30, 31, 32, 33, 34, 35, 36, 37, 38, 39] rfl rfl rfl (fun xv wS hS hV bq hb K hK => ?_)) ?_
          · obtain ⟨h6, h5, _⟩ := hV
            have h6 : xv 6 = _ := h6
            have h5 : xv 5 = _ := h5
            simp only [putsOf, List.foldl_cons, List.foldl_nil, List.getD_cons_zero, List.getD_cons_succ, List.getD_nil, cond_true, cond_false, Act.put, List.setIfInBounds_toArray, List.set_cons_zero, List.set_cons_succ, h6, h5] at hb
            clear h6
            clear h5
            subst hb
            rw [if_pos (by rfl)]
            (have q1 := HL.out.below hS HL.out.lt; have c0 := (q1.cell 0).trans (show _ = some (Value.int .i64 z.op) from rfl); have c1 := (q1.cell 1).trans (show _ = some (Value.int .i64 z.a) from rfl); have c2 := (q1.cell 2).trans (show _ = some (Value.int .i64 z.b) from rfl); have c3 := (q1.cell 3).trans (show _ = some (Value.int .i64 z.c) from rfl); have c4 := (q1.cell 4).trans (show _ = some (Value.int .i64 z.d) from rfl); have c5 := (q1.cell 5).trans (show _ = some (Value.int .u64 (z.k : Int)) from rfl); have cl := q1.lt; clear q1)
            go_wp2_with fail
            exact hK.out _ _ ⟨_, rfl, hS, rfl, AllP.same _⟩
          refine RelySteps.cons (RelyStep.mk [7, 5] [0, 5, 9, 10, 11, 13, 14, 15, 16, 18, 19, 20, 21, 22, 23, 24, 25, 26, 27, 28, 29, 30, 31, 32, 33, 34, 35, 36, 37, 38, 39] rfl rfl rfl (fun xv wS hS hV bq hb K hK => ?_)) ?_
          · obtain ⟨h7, h5, _⟩ := hV
            have h7 : xv 7 = _ := h7
            have h5 : xv 5 = _ := h5
            simp only [putsOf, List.foldl_cons, List.foldl_nil, List.getD_cons_zero, List.getD_cons_succ, List.getD_nil, cond_true, cond_false, Act.put, List.setIfInBounds_toArray, List.set_cons_zero, List.set_cons_succ, h7, h5] at hb
            clear h7
            clear h5
            subst hb
            rw [if_pos (by rfl)]
            have HSS := Lib.hid hS
            clear hS
            go_wp2_with fail
            refine (HPL.out _).mono ?_
            rintro e w9 ⟨rfl, rfl⟩
            exact hK.out _ _ ⟨_, rfl, HSS.out, rfl, AllP.same _⟩
          refine RelySteps.cons (RelyStep.mk [5] [0, 5, 6, 7, 8, 11, 12, 13, 14, 15, 16, 17, 18, 19, 20, 21, 22, 23, 24, 25, 26, 27, 28, 29, 30, 31, 32, 33, 34, 35, 36, 37, 38, 39] rfl rfl rfl (fun xv wS hS hV bq hb K hK => ?_)) ?_
          · obtain ⟨h5, _⟩ := hV
            have h5 : xv 5 = _ := h5
            simp only [putsOf, List.foldl_cons, List.foldl_nil, List.getD_cons_zero, List.getD_cons_succ, List.getD_nil, cond_true, cond_false, Act.put, List.setIfInBounds_toArray, List.set_cons_zero, List.set_cons_succ, h5] at hb
            clear h5
            subst hb
            rw [if_pos (by rfl)]
            go_wp2_with fail
            exact hK.out _ _ ⟨_, rfl, hS, rfl, AllP.same _⟩
          refine RelySteps.cons (RelyStep.mk [9, 5] [0, 5, 6, 7, 8, 12, 13, 14, 15, 16, 17, 18, 19, 20, 21, 22, 23, 24, 25, 26, 27, 28, 29, 30, 31, 32, 33, 34, 35, 36, 37, 38, 39] rfl rfl rfl (fun xv wS hS hV bq hb K hK => ?_)) ?_
          · obtain ⟨h9, h5, _⟩ := hV
            have h9 : xv 9 = _ := h9
            have h5 : xv 5 = _ := h5
            simp only [putsOf, List.foldl_cons, List.foldl_nil, List.getD_cons_zero, List.getD_cons_succ, List.getD_nil, cond_true, cond_false, Act.put, List.setIfInBounds_toArray, List.set_cons_zero, List.set_cons_succ, h9, h5] at hb
            clear h9
            clear h5
            subst hb
            rw [if_pos (by rfl)]
            (have q1 := HL.out.below hS HL.out.lt; have c0 := (q1.cell 0).trans (show _ = some (Value.int .i64 z.op) from rfl); have c1 := (q1.cell 1).trans (show _ = some (Value.int .i64 z.a) from rfl); have c2 := (q1.cell 2).trans (show _ = some (Value.int .i64 z.b) from rfl); have c3 := (q1.cell 3).trans (show _ = some (Value.int .i64 z.c) from rfl); have c4 := (q1.cell 4).trans (show _ = some (Value.int .i64 z.d) from rfl); have c5 := (q1.cell 5).trans (show _ = some (Value.int .u64 (z.k : Int)) from rfl); have cl := q1.lt; clear q1)
            go_wp2_with fail
            exact hK.out _ _ ⟨_, rfl, hS, rfl, AllP.same _⟩
          refine RelySteps.cons (RelyStep.mk [10, 5] [0, 5, 6, 7, 8, 13, 14, 15, 16, 17, 18, 19, 20, 21, 22, 23, 24, 25, 26, 27, 28, 29, 30, 31, 32, 33, 34, 35, 36, 37, 38, 39] rfl rfl rfl (fun xv wS hS hV bq hb K hK => ?_)) ?_
          · obtain ⟨h10, h5, _⟩ := hV
            have h10 : xv 10 = _ := h10
            have h5 : xv 5 = _ := h5
            simp only [putsOf, List.foldl_cons, List.foldl_nil, List.getD_cons_zero, List.getD_cons_succ, List.getD_nil, cond_true, cond_false, Act.put, List.setIfInBounds_toArray, List.set_cons_zero, List.set_cons_succ, h10, h5] at hb
            clear h10
            clear h5
            subst hb
            rw [if_pos (by rfl)]
            go_wp2_with fail
            exact hK.out _ _ ⟨_, rfl, hS, rfl, AllP.same _⟩
          refine RelySteps.cons (RelyStep.mk [11, 5] [0, 5, 8, 17, 18, 20, 21, 22, 23, 24, 25, 26, 27, 28, 29, 30, 31, 32, 33, 34, 35, 36, 37, 38, 39] rfl rfl rfl (fun xv wS hS hV bq hb K hK => ?_)) ?_
          · obtain ⟨h11, h5, _⟩ := hV
            have h11 : xv 11 = _ := h11
            have h5 : xv 5 = _ := h5
            simp only [putsOf, List.foldl_cons, List.foldl_nil, List.getD_cons_zero, List.getD_cons_succ, List.getD_nil, cond_true, cond_false, Act.put, List.setIfInBounds_toArray, List.set_cons_zero, List.set_cons_succ, h11, h5] at hb
            clear h11
            clear h5
            subst hb
            rw [if_pos (by rfl)]
            go_wp2_with fail
            exact hK.out _ _ ⟨_, rfl, hS, rfl, AllP.same _⟩
          refine RelySteps.cons (RelyStep.mk [12] [0, 1, 2, 3, 5, 6, 8, 9, 12, 15, 16, 17, 18, 19, 20, 21, 22, 23, 24, 25, 26, 27, 28, 29, 30, 31, 32, 33, 34, 35, 36, 37, 38, 39] rfl rfl rfl (fun xv wS hS hV bq hb K hK => ?_)) ?_
          · obtain ⟨h12, _⟩ := hV
            have h12 : xv 12 = _ := h12
            simp only [putsOf, List.foldl_cons, List.foldl_nil, List.getD_cons_zero, List.getD_cons_succ, List.getD_nil, cond_true, cond_false, Act.put, List.setIfInBounds_toArray, List.set_cons_zero, List.set_cons_succ, h12] at hb
            clear h12
            subst hb
            first
              | (rw [if_pos (by rfl)]
                 go_wp2_with fail
                 exact hK.out _ _ ⟨_, rfl, hS, rfl, AllP.same _⟩)
              | (refine not_wanted (by rfl) ?_
                 exact hK.out _ _ ⟨undef, rfl, hS, rfl, AllP.same _⟩)
          refine RelySteps.cons (RelyStep.mk [13, 12] [0, 1, 2, 3, 5, 6, 8, 9, 12, 16, 17, 18, 19, 20, 21, 22, 23, 24, 25, 26, 27, 28, 29, 30, 31, 32, 33, 34, 35, 36, 37, 38, 39] rfl rfl rfl (fun xv wS hS hV bq hb K hK => ?_)) ?_
          · obtain ⟨h13, h12, _⟩ := hV
            have h13 : xv 13 = _ := h13
            have h12 : xv 12 = _ := h12
            simp only [putsOf, List.foldl_cons, List.foldl_nil, List.getD_cons_zero, List.getD_cons_succ, List.getD_nil, cond_true, cond_false, Act.put, List.setIfInBounds_toArray, List.set_cons_zero, List.set_cons_succ, h13, h12] at hb
            clear h13
            clear h12
            subst hb
            first
              | (rw [if_pos (by rfl)]
                 have q1 := HL.out.below hS HL.out.lt
                 have c0 := (q1.cell 0).trans (show _ = some (Value.int .i64 z.op) from rfl)
                 have c1 := (q1.cell 1).trans (show _ = some (Value.int .i64 z.a) from rfl)
                 have c2 := (q1.cell 2).trans (show _ = some (Value.int .i64 z.b) from rfl)
                 have c3 := (q1.cell 3).trans (show _ = some (Value.int .i64 z.c) from rfl)
                 have c4 := (q1.cell 4).trans (show _ = some (Value.int .i64 z.d) from rfl)
                 have c5 := (q1.cell 5).trans (show _ = some (Value.int .u64 (z.k : Int)) from rfl)
                 have cl := q1.lt
                 clear q1
                 go_wp2_with fail
                 exact hK.out _ _ ⟨_, rfl, hS, rfl, AllP.same _⟩)
              | (refine not_wanted (by rfl) ?_
                 exact hK.out _ _ ⟨undef, rfl, hS, rfl, AllP.same _⟩)
          refine RelySteps.cons (RelyStep.mk [14, 12] [0, 1, 2, 3, 5, 6, 8, 9, 12, 17, 18, 19, 20, 21, 22, 23, 24, 25, 26, 27, 28, 29, 30, 31, 32, 33, 34, 35, 36, 37, 38, 39] rfl rfl rfl (fun xv wS hS hV bq hb K hK => ?_)) ?_
          · obtain ⟨h14, h12, _⟩ := hV
            have h14 : xv 14 = _ := h14
            have h12 : xv 12 = _ := h12
            simp only [putsOf, List.foldl_cons, List.foldl_nil, List.getD_cons_zero, List.getD_cons_succ, List.getD_nil, cond_true, cond_false, Act.put, List.setIfInBounds_toArray, List.set_cons_zero, List.set_cons_succ, h14, h12] at hb
            clear h14
            clear h12
            subst hb
            first
              | (rw [if_pos (by rfl)]
                 go_wp2_with fail
                 exact hK.out _ _ ⟨_, rfl, hS, rfl, AllP.same _⟩)
              | (refine not_wanted (by rfl) ?_
                 exact hK.out _ _ ⟨undef, rfl, hS, rfl, AllP.same _⟩)
          refine RelySteps.cons (RelyStep.mk [12, 15, 5] [0, 5, 6, 8, 9, 12, 18, 19, 20, 21, 22, 23, 24, 25, 26, 27, 28, 29, 30, 31, 32, 33, 34, 35, 36, 37, 38, 39] rfl rfl rfl (fun xv wS hS hV bq hb K hK => ?_)) ?_
          · obtain ⟨h12, h15, h5, _⟩ := hV
            have h12 : xv 12 = _ := h12
            have h15 : xv 15 = _ := h15
            have h5 : xv 5 = _ := h5
            simp only [putsOf, List.foldl_cons, List.foldl_nil, List.getD_cons_zero, List.getD_cons_succ, List.getD_nil, cond_true, cond_false, Act.put, List.setIfInBounds_toArray, List.set_cons_zero, List.set_cons_succ, h12, h15, h5] at hb
            clear h12
            clear h15
            clear h5
            subst hb
            rw [if_pos (by rfl)]
            go_wp2_with fail
            exact hK.out _ _ ⟨_, rfl, hS, rfl, AllP.same _⟩
          refine RelySteps.cons (RelyStep.mk [8, 16, 5] [0, 5, 9, 10, 12, 13, 19, 20, 21, 22, 23, 24, 25, 26, 27, 28, 29, 30, 31, 32, 33, 34, 35, 36, 37, 38, 39] rfl rfl rfl (fun xv wS hS hV bq hb K hK => ?_)) ?_
          · obtain ⟨h8, h16, h5, _⟩ := hV
            have h8 : xv 8 = _ := h8
            have h16 : xv 16 = _ := h16
            have h5 : xv 5 = _ := h5
            simp only [putsOf, List.foldl_cons, List.foldl_nil, List.getD_cons_zero, List.getD_cons_succ, List.getD_nil, cond_true, cond_false, Act.put, List.setIfInBounds_toArray, List.set_cons_zero, List.set_cons_succ, h8, h16, h5] at hb
            clear h8
            clear h16
            clear h5
            subst hb
            rw [if_pos (by rfl)]
            go_wp2_with fail
            exact hK.out _ _ ⟨_, rfl, hS, rfl, AllP.same _⟩
          refine RelySteps.cons (RelyStep.mk [5, 17] [0, 5, 6, 9, 10, 11, 12, 13, 14, 20, 21, 22, 23, 24, 25, 26, 27, 28, 29, 30, 31, 32, 33, 34, 35, 36, 37, 38, 39] rfl rfl rfl (fun xv wS hS hV bq hb K hK => ?_)) ?_
          · obtain ⟨h5, h17, _⟩ := hV
            have h5 : xv 5 = _ := h5
            have h17 : xv 17 = _ := h17
            simp only [putsOf, List.foldl_cons, List.foldl_nil, List.getD_cons_zero, List.getD_cons_succ, List.getD_nil, cond_true, cond_false, Act.put, List.setIfInBounds_toArray, List.set_cons_zero, List.set_cons_succ, h5, h17] at hb
            clear h5
            clear h17
            subst hb
            rw [if_pos (by rfl)]
            go_wp2_with fail
            exact hK.out _ _ ⟨_, rfl, hS, rfl, AllP.same _⟩
          refine RelySteps.cons (RelyStep.mk [18] [0, 1, 2, 3, 5, 6, 9, 12, 13, 14, 15, 27, 28, 29, 33, 34, 35, 36, 37, 38, 39] rfl rfl rfl (fun xv wS hS hV bq hb K hK => ?_)) ?_
          · obtain ⟨h18, _⟩ := hV
            have h18 : xv 18 = _ := h18
            simp only [putsOf, List.foldl_cons, List.foldl_nil, List.getD_cons_zero, List.getD_cons_succ, List.getD_nil, cond_true, cond_false, Act.put, List.setIfInBounds_toArray, List.set_cons_zero, List.set_cons_succ, h18] at hb
            clear h18
            subst hb
            rw [if_pos (by rfl)]
            go_wp2_with fail
            exact hK.out _ _ ⟨_, rfl, hS, rfl, AllP.same _⟩
          refine RelySteps.cons (RelyStep.mk [19] [0, 1, 2, 3, 4, 5, 6, 7, 8, 9, 10, 12, 13, 14, 15, 16, 19, 22, 23, 24, 25, 26, 27, 28, 29, 30, 31, 32, 33, 34, 35, 36, 37, 38, 39] rfl rfl rfl (fun xv wS hS hV bq hb K hK => ?_)) ?_
          · obtain ⟨h19, _⟩ := hV
            have h19 : xv 19 = _ := h19
            simp only [putsOf, List.foldl_cons, List.foldl_nil, List.getD_cons_zero, List.getD_cons_succ, List.getD_nil, cond_true, cond_false, Act.put, List.setIfInBounds_toArray, List.set_cons_zero, List.set_cons_succ, h19] at hb
            clear h19
            subst hb
            rw [if_pos (by rfl)]
            go_wp2_with fail
            exact hK.out _ _ ⟨_, rfl, hS, rfl, AllP.same _⟩
          refine RelySteps.cons (RelyStep.mk [20, 19] [0, 1, 2, 3, 4, 5, 6, 7, 8, 9, 10, 12, 13, 14, 15, 16, 19, 23, 24, 25, 26, 27, 28, 29, 30, 31, 32, 33, 34, 35, 36, 37, 38, 39] rfl rfl rfl (fun xv wS hS hV bq hb K hK => ?_)) ?_
          · obtain ⟨h20, h19, _⟩ := hV
            have h20 : xv 20 = _ := h20
            have h19 : xv 19 = _ := h19
            simp only [putsOf, List.foldl_cons, List.foldl_nil, List.getD_cons_zero, List.getD_cons_succ, List.getD_nil, cond_true, cond_false, Act.put, List.setIfInBounds_toArray, List.set_cons_zero, List.set_cons_succ, h20, h19] at hb
            clear h20
            clear h19
            subst hb
            rw [if_pos (by rfl)]
            (have q1 := HL.out.below hS HL.out.lt; have c0 := (q1.cell 0).trans (show _ = some (Value.int .i64 z.op) from rfl); have c1 := (q1.cell 1).trans (show _ = some (Value.int .i64 z.a) from rfl); have c2 := (q1.cell 2).trans (show _ = some (Value.int .i64 z.b) from rfl); have c3 := (q1.cell 3).trans (show _ = some (Value.int .i64 z.c) from rfl); have c4 := (q1.cell 4).trans (show _ = some (Value.int .i64 z.d) from rfl); have c5 := (q1.cell 5).trans (show _ = some (Value.int .u64 (z.k : Int)) from rfl); have cl := q1.lt; clear q1)
            go_wp2_with fail
            exact hK.out _ _ ⟨_, rfl, hS, rfl, AllP.same _⟩
          refine RelySteps.cons (RelyStep.mk [21, 19] [0, 1, 2, 3, 4, 5, 6, 7, 8, 9, 10, 12, 13, 14, 15, 16, 19, 23, 24, 25, 27, 28, 29, 30, 32, 33, 34, 35, 36, 37, 38, 39] rfl rfl rfl (fun xv wS hS hV bq hb K hK => ?_)) ?_
          · obtain ⟨h21, h19, _⟩ := hV
            have h21 : xv 21 = _ := h21
            have h19 : xv 19 = _ := h19
            simp only [putsOf, List.foldl_cons, List.foldl_nil, List.getD_cons_zero, List.getD_cons_succ, List.getD_nil, cond_true, cond_false, Act.put, List.setIfInBounds_toArray, List.set_cons_zero, List.set_cons_succ, h21, h19] at hb
            clear h21
            clear h19
            subst hb
            rw [if_pos (by rfl)]
            have HSS := Lib.hid hS
            clear hS
            go_wp2_with fail
            refine (HSE.out _).mono ?_
            rintro e w9 ⟨rfl, rfl⟩
            exact hK.out _ _ ⟨_, rfl, HSS.out, rfl, AllP.same _⟩
          refine RelySteps.cons (RelyStep.mk [19] [0, 1, 2, 3, 4, 5, 6, 7, 8, 9, 10, 12, 13, 14, 15, 16, 19, 20, 21, 22, 25, 26, 27, 28, 29, 30, 31, 32, 33, 34, 35, 36, 37, 38, 39] rfl rfl rfl (fun xv wS hS hV bq hb K hK => ?_)) ?_
          · obtain ⟨h19, _⟩ := hV
            have h19 : xv 19 = _ := h19
            simp only [putsOf, List.foldl_cons, List.foldl_nil, List.getD_cons_zero, List.getD_cons_succ, List.getD_nil, cond_true, cond_false, Act.put, List.setIfInBounds_toArray, List.set_cons_zero, List.set_cons_succ, h19] at hb
            clear h19
            subst hb
            rw [if_pos (by rfl)]
            go_wp2_with fail
            exact hK.out _ _ ⟨_, rfl, hS, rfl, AllP.same _⟩
          refine RelySteps.cons (RelyStep.mk [23, 19] [0, 1, 2, 3, 4, 5, 6, 7, 8, 9, 10, 12, 13, 14, 15, 16, 19, 20, 21, 22, 26, 27, 28, 29, 30, 31, 32, 33, 34, 35, 36, 37, 38, 39] rfl rfl rfl (fun xv wS hS hV bq hb K hK => ?_)) ?_
          · obtain ⟨h23, h19, _⟩ := hV
            have h23 : xv 23 = _ := h23
            have h19 : xv 19 = _ := h19
            simp only [putsOf, List.foldl_cons, List.foldl_nil, List.getD_cons_zero, List.getD_cons_succ, List.getD_nil, cond_true, cond_false, Act.put, List.setIfInBounds_toArray, List.set_cons_zero, List.set_cons_succ, h23, h19] at hb
            clear h23
            clear h19
            subst hb
            rw [if_pos (by rfl)]
            (have q1 := HL.out.below hS HL.out.lt; have c0 := (q1.cell 0).trans (show _ = some (Value.int .i64 z.op) from rfl); have c1 := (q1.cell 1).trans (show _ = some (Value.int .i64 z.a) from rfl); have c2 := (q1.cell 2).trans (show _ = some (Value.int .i64 z.b) from rfl); have c3 := (q1.cell 3).trans (show _ = some (Value.int .i64 z.c) from rfl); have c4 := (q1.cell 4).trans (show _ = some (Value.int .i64 z.d) from rfl); have c5 := (q1.cell 5).trans (show _ = some (Value.int .u64 (z.k : Int)) from rfl); have cl := q1.lt; clear q1)
            go_wp2_with fail
            exact hK.out _ _ ⟨_, rfl, hS, rfl, AllP.same _⟩
          refine RelySteps.cons (RelyStep.mk [24, 19] [0, 1, 2, 3, 4, 5, 6, 7, 8, 9, 10, 12, 13, 14, 15, 16, 19, 20, 21, 22, 27, 28, 29, 30, 31, 32, 33, 34, 35, 36, 37, 38, 39] rfl rfl rfl (fun xv wS hS hV bq hb K hK => ?_)) ?_
          · obtain ⟨h24, h19, _⟩ := hV
            have h24 : xv 24 = _ := h24
            have h19 : xv 19 = _ := h19
            simp only [putsOf, List.foldl_cons, List.foldl_nil, List.getD_cons_zero, List.getD_cons_succ, List.getD_nil, cond_true, cond_false, Act.put, List.setIfInBounds_toArray, List.set_cons_zero, List.set_cons_succ, h24, h19] at hb
            clear h24
            clear h19
            subst hb
            rw [if_pos (by rfl)]
            go_wp2_with fail
            exact hK.out _ _ ⟨_, rfl, hS, rfl, AllP.same _⟩
          refine RelySteps.cons (RelyStep.mk [25, 19] [0, 1, 2, 3, 4, 5, 6, 7, 8, 9, 10, 12, 13, 14, 15, 16, 19, 22, 31, 32, 34, 35, 36, 37, 38, 39] rfl rfl rfl (fun xv wS hS hV bq hb K hK => ?_)) ?_
          · obtain ⟨h25, h19, _⟩ := hV
            have h25 : xv 25 = _ := h25
            have h19 : xv 19 = _ := h19
            simp only [putsOf, List.foldl_cons, List.foldl_nil, List.getD_cons_zero, List.getD_cons_succ, List.getD_nil, cond_true, cond_false, Act.put, List.setIfInBounds_toArray, List.set_cons_zero, List.set_cons_succ, h25, h19] at hb
            clear h25
            clear h19
            subst hb
            rw [if_pos (by rfl)]
            go_wp2_with fail
            exact hK.out _ _ ⟨_, rfl, hS, rfl, AllP.same _⟩
          refine RelySteps.cons (RelyStep.mk [26] [0, 1, 2, 3, 4, 5, 6, 7, 8, 9, 10, 11, 12, 13, 14, 15, 16, 17, 19, 20, 22, 23, 26, 29, 30, 31, 32, 33, 34, 35, 36, 37, 38, 39] rfl rfl rfl (fun xv wS hS hV bq hb K hK => ?_)) ?_
          · obtain ⟨h26, _⟩ := hV
            have h26 : xv 26 = _ := h26
            simp only [putsOf, List.foldl_cons, List.foldl_nil, List.getD_cons_zero, List.getD_cons_succ, List.getD_nil, cond_true, cond_false, Act.put, List.setIfInBounds_toArray, List.set_cons_zero, List.set_cons_succ, h26] at hb
            clear h26
            subst hb
            first
              | (rw [if_pos (by rfl)]
                 go_wp2_with fail
                 exact hK.out _ _ ⟨_, rfl, hS, rfl, AllP.same _⟩)
              | (refine not_wanted (by rfl) ?_
                 exact hK.out _ _ ⟨undef, rfl, hS, rfl, AllP.same _⟩)
          refine RelySteps.cons (RelyStep.mk [27, 26] [0, 1, 2, 3, 4, 5, 6, 7, 8, 9, 10, 11, 12, 13, 14, 15, 16, 17, 19, 20, 22, 23, 26, 30, 31, 32, 33, 34, 35, 36, 37, 38, 39] rfl rfl rfl (fun xv wS hS hV bq hb K hK => ?_)) ?_
          · obtain ⟨h27, h26, _⟩ := hV
            have h27 : xv 27 = _ := h27
            have h26 : xv 26 = _ := h26
            simp only [putsOf, List.foldl_cons, List.foldl_nil, List.getD_cons_zero, List.getD_cons_succ, List.getD_nil, cond_true, cond_false, Act.put, List.setIfInBounds_toArray, List.set_cons_zero, List.set_cons_succ, h27, h26] at hb
            clear h27
            clear h26
            subst hb
            first
              | (rw [if_pos (by rfl)]
                 have q1 := HL.out.below hS HL.out.lt
                 have c0 := (q1.cell 0).trans (show _ = some (Value.int .i64 z.op) from rfl)
                 have c1 := (q1.cell 1).trans (show _ = some (Value.int .i64 z.a) from rfl)
                 have c2 := (q1.cell 2).trans (show _ = some (Value.int .i64 z.b) from rfl)
                 have c3 := (q1.cell 3).trans (show _ = some (Value.int .i64 z.c) from rfl)
                 have c4 := (q1.cell 4).trans (show _ = some (Value.int .i64 z.d) from rfl)
                 have c5 := (q1.cell 5).trans (show _ = some (Value.int .u64 (z.k : Int)) from rfl)
                 have cl := q1.lt
                 clear q1
                 go_wp2_with fail
                 exact hK.out _ _ ⟨_, rfl, hS, rfl, AllP.same _⟩)
              | (refine not_wanted (by rfl) ?_
                 exact hK.out _ _ ⟨undef, rfl, hS, rfl, AllP.same _⟩)
          refine RelySteps.cons (RelyStep.mk [28, 26] [0, 1, 2, 3, 4, 5, 6, 7, 8, 9, 10, 11, 12, 13, 14, 15, 16, 17, 19, 20, 22, 23, 26, 31, 32, 33, 34, 35, 36, 37, 38, 39] rfl rfl rfl (fun xv wS hS hV bq hb K hK => ?_)) ?_
          · obtain ⟨h28, h26, _⟩ := hV
            have h28 : xv 28 = _ := h28
            have h26 : xv 26 = _ := h26
            simp only [putsOf, List.foldl_cons, List.foldl_nil, List.getD_cons_zero, List.getD_cons_succ, List.getD_nil, cond_true, cond_false, Act.put, List.setIfInBounds_toArray, List.set_cons_zero, List.set_cons_succ, h28, h26] at hb
            clear h28
            clear h26
            subst hb
            first
              | (rw [if_pos (by rfl)]
                 go_wp2_with fail
                 exact hK.out _ _ ⟨_, rfl, hS, rfl, AllP.same _⟩)
              | (refine not_wanted (by rfl) ?_
                 exact hK.out _ _ ⟨undef, rfl, hS, rfl, AllP.same _⟩)
          refine RelySteps.cons (RelyStep.mk [26, 29, 19] [0, 1, 2, 3, 4, 5, 6, 7, 8, 9, 10, 12, 13, 14, 15, 16, 19, 20, 22, 23, 26, 32, 33, 34, 35, 36, 37, 38, 39] rfl rfl rfl (fun xv wS hS hV bq hb K hK => ?_)) ?_
          · obtain ⟨h26, h29, h19, _⟩ := hV
            have h26 : xv 26 = _ := h26
            have h29 : xv 29 = _ := h29
            have h19 : xv 19 = _ := h19
            simp only [putsOf, List.foldl_cons, List.foldl_nil, List.getD_cons_zero, List.getD_cons_succ, List.getD_nil, cond_true, cond_false, Act.put, List.setIfInBounds_toArray, List.set_cons_zero, List.set_cons_succ, h26, h29, h19] at hb
            clear h26
            clear h29
            clear h19
            subst hb
            rw [if_pos (by rfl)]
            go_wp2_with fail
            exact hK.out _ _ ⟨_, rfl, hS, rfl, AllP.same _⟩
          refine RelySteps.cons (RelyStep.mk [22, 30, 19] [0, 1, 2, 3, 4, 5, 6, 7, 8, 9, 10, 12, 13, 14, 15, 16, 19, 23, 24, 26, 27, 33, 34, 35, 36, 37, 38, 39] rfl rfl rfl (fun xv wS hS hV bq hb K hK => ?_)) ?_
          · obtain ⟨h22, h30, h19, _⟩ := hV
            have h22 : xv 22 = _ := h22
            have h30 : xv 30 = _ := h30
            have h19 : xv 19 = _ := h19
            simp only [putsOf, List.foldl_cons, List.foldl_nil, List.getD_cons_zero, List.getD_cons_succ, List.getD_nil, cond_true, cond_false, Act.put, List.setIfInBounds_toArray, List.set_cons_zero, List.set_cons_succ, h22, h30, h19] at hb
            clear h22
            clear h30
            clear h19
            subst hb
            rw [if_pos (by rfl)]
            go_wp2_with fail
            exact hK.out _ _ ⟨_, rfl, hS, rfl, AllP.same _⟩
          refine RelySteps.cons (RelyStep.mk [19, 31] [0, 1, 2, 3, 4, 5, 6, 7, 8, 9, 10, 12, 13, 14, 15, 16, 19, 20, 23, 24, 25, 26, 27, 28, 34, 35, 36, 37, 38, 39] rfl rfl rfl (fun xv wS hS hV bq hb K hK => ?_)) ?_
          · obtain ⟨h19, h31, _⟩ := hV
            have h19 : xv 19 = _ := h19
            have h31 : xv 31 = _ := h31
            simp only [putsOf, List.foldl_cons, List.foldl_nil, List.getD_cons_zero, List.getD_cons_succ, List.getD_nil, cond_true, cond_false, Act.put, List.setIfInBounds_toArray, List.set_cons_zero, List.set_cons_succ, h19, h31] at hb
            clear h19
            clear h31
            subst hb
            rw [if_pos (by rfl)]
            go_wp2_with fail
            exact hK.out _ _ ⟨_, rfl, hS, rfl, AllP.same _⟩
          refine RelySteps.cons (RelyStep.mk [32] [0, 1, 2, 3, 4, 5, 6, 7, 8, 9, 10, 11, 12, 13, 14, 15, 16, 17, 19, 20, 23, 26, 27, 28, 29] rfl rfl rfl (fun xv wS hS hV bq hb K hK => ?_)) ?_
          · obtain ⟨h32, _⟩ := hV
            have h32 : xv 32 = _ := h32
            simp only [putsOf, List.foldl_cons, List.foldl_nil, List.getD_cons_zero, List.getD_cons_succ, List.getD_nil, cond_true, cond_false, Act.put, List.setIfInBounds_toArray, List.set_cons_zero, List.set_cons_succ, h32] at hb
            clear h32
            subst hb
            rw [if_pos (by rfl)]
            go_wp2_with fail
            exact hK.out _ _ ⟨_, rfl, hS, rfl, AllP.same _⟩
          refine RelySteps.cons (RelyStep.mk [33] [0, 1, 2, 3, 4, 5, 6, 7, 8, 9, 10, 11, 12, 13, 14, 15, 16, 17, 18, 19, 20, 21, 22, 23, 24, 26, 27, 28, 29, 30, 33, 36, 37, 38, 39] rfl rfl rfl (fun xv wS hS hV bq hb K hK => ?_)) ?_
          · obtain ⟨h33, _⟩ := hV
            have h33 : xv 33 = _ := h33
            simp only [putsOf, List.foldl_cons, List.foldl_nil, List.getD_cons_zero, List.getD_cons_succ, List.getD_nil, cond_true, cond_false, Act.put, List.setIfInBounds_toArray, List.set_cons_zero, List.set_cons_succ, h33] at hb
            clear h33
            subst hb
            rw [if_pos (by rfl)]
            (have q1 := HL.out.below hS HL.out.lt; have c0 := (q1.cell 0).trans (show _ = some (Value.int .i64 z.op) from rfl); have c1 := (q1.cell 1).trans (show _ = some (Value.int .i64 z.a) from rfl); have c2 := (q1.cell 2).trans (show _ = some (Value.int .i64 z.b) from rfl); have c3 := (q1.cell 3).trans (show _ = some (Value.int .i64 z.c) from rfl); have c4 := (q1.cell 4).trans (show _ = some (Value.int .i64 z.d) from rfl); have c5 := (q1.cell 5).trans (show _ = some (Value.int .u64 (z.k : Int)) from rfl); have cl := q1.lt; clear q1)
            go_wp2_with fail
            exact hK.out _ _ ⟨_, rfl, hS, rfl, AllP.same _⟩
          refine RelySteps.cons (RelyStep.mk [34, 33] [0, 1, 2, 3, 4, 5, 6, 7, 8, 9, 10, 11, 12, 13, 14, 15, 16, 17, 18, 19, 20, 21, 22, 23, 24, 26, 27, 28, 29, 30, 33, 36, 39] rfl rfl rfl (fun xv wS hS hV bq hb K hK => ?_)) ?_
          · obtain ⟨h34, h33, _⟩ := hV
            have h34 : xv 34 = _ := h34
            have h33 : xv 33 = _ := h33
            simp only [putsOf, List.foldl_cons, List.foldl_nil, List.getD_cons_zero, List.getD_cons_succ, List.getD_nil, cond_true, cond_false, Act.put, List.setIfInBounds_toArray, List.set_cons_zero, List.set_cons_succ, h34, h33] at hb
            clear h34
            clear h33
            subst hb
            rw [if_pos (by rfl)]
            have HSS := Lib.hid hS
            clear hS
            go_wp2_with fail
            refine (HRI.out _).mono ?_
            rintro e w9 ⟨rfl, hb⟩
            exact hK.out _ _ ⟨_, rfl, HSS.out.trans (hb.mono HSS.out.size), rfl, AllP.of _ (fun j _ u h => tlV_all h)⟩
          refine RelySteps.cons (RelyStep.mk [33] [0, 1, 2, 3, 4, 5, 6, 7, 8, 9, 10, 11, 12, 13, 14, 15, 16, 17, 18, 19, 20, 21, 22, 23, 24, 26, 27, 28, 29, 30, 33, 34, 35, 38, 39] rfl rfl rfl (fun xv wS hS hV bq hb K hK => ?_)) ?_
          · obtain ⟨h33, _⟩ := hV
            have h33 : xv 33 = _ := h33
            simp only [putsOf, List.foldl_cons, List.foldl_nil, List.getD_cons_zero, List.getD_cons_succ, List.getD_nil, cond_true, cond_false, Act.put, List.setIfInBounds_toArray, List.set_cons_zero, List.set_cons_succ, h33] at hb
            clear h33
            subst hb
            rw [if_pos (by rfl)]
            (have q1 := HL.out.below hS HL.out.lt; have c0 := (q1.cell 0).trans (show _ = some (Value.int .i64 z.op) from rfl); have c1 := (q1.cell 1).trans (show _ = some (Value.int .i64 z.a) from rfl); have c2 := (q1.cell 2).trans (show _ = some (Value.int .i64 z.b) from rfl); have c3 := (q1.cell 3).trans (show _ = some (Value.int .i64 z.c) from rfl); have c4 := (q1.cell 4).trans (show _ = some (Value.int .i64 z.d) from rfl); have c5 := (q1.cell 5).trans (show _ = some (Value.int .u64 (z.k : Int)) from rfl); have cl := q1.lt; clear q1)
            go_wp2_with fail
            exact hK.out _ _ ⟨_, rfl, hS, rfl, AllP.same _⟩
          refine RelySteps.cons (RelyStep.mk [36, 33] [0, 1, 2, 3, 4, 5, 6, 7, 8, 9, 10, 11, 12, 13, 14, 15, 16, 17, 18, 19, 20, 21, 22, 23, 24, 26, 27, 28, 29, 30, 33, 35, 39] rfl rfl rfl (fun xv wS hS hV bq hb K hK => ?_)) ?_
          · obtain ⟨h36, h33, _⟩ := hV
            have h36 : xv 36 = _ := h36
            have h33 : xv 33 = _ := h33
            simp only [putsOf, List.foldl_cons, List.foldl_nil, List.getD_cons_zero, List.getD_cons_succ, List.getD_nil, cond_true, cond_false, Act.put, List.setIfInBounds_toArray, List.set_cons_zero, List.set_cons_succ, h36, h33] at hb
            clear h36
            clear h33
            subst hb
            rw [if_pos (by rfl)]
            have HSS := Lib.hid hS
            clear hS
            go_wp2_with fail
            refine (HRR.out _).mono ?_
            rintro e w9 ⟨rfl, hb⟩
            exact hK.out _ _ ⟨_, rfl, HSS.out.trans (hb.mono HSS.out.size), rfl, AllP.of _ (fun j _ u h => tlV_all h)⟩
          refine RelySteps.cons (RelyStep.mk [35, 37, 33] [0, 1, 2, 3, 4, 5, 6, 7, 8, 9, 10, 11, 12, 13, 14, 15, 16, 17, 18, 19, 20, 21, 22, 23, 24, 26, 27, 28, 29, 30, 33] rfl rfl rfl (fun xv wS hS hV bq hb K hK => ?_)) ?_
          · obtain ⟨h35, h37, h33, _⟩ := hV
            have h35 : xv 35 = _ := h35
            have h37 : xv 37 = _ := h37
            have h33 : xv 33 = _ := h33
            simp only [putsOf, List.foldl_cons, List.foldl_nil, List.getD_cons_zero, List.getD_cons_succ, List.getD_nil, cond_true, cond_false, Act.put, List.setIfInBounds_toArray, List.set_cons_zero, List.set_cons_succ, h35, h37, h33] at hb
            clear h35
            clear h37
            clear h33
            subst hb
            rw [if_pos (by rfl)]
            go_wp2_with fail
            exact hK.out _ _ ⟨_, rfl, hS, rfl, AllP.same _⟩
          refine RelySteps.cons (RelyStep.mk [33, 38] [0, 1, 2, 3, 4, 5, 6, 7, 8, 9, 10, 11, 12, 13, 14, 15, 16, 17, 18, 19, 20, 21, 22, 23, 24, 26, 27, 28, 29, 30, 33] rfl rfl rfl (fun xv wS hS hV bq hb K hK => ?_)) ?_
          · obtain ⟨h33, h38, _⟩ := hV
            have h33 : xv 33 = _ := h33
            have h38 : xv 38 = _ := h38
            simp only [putsOf, List.foldl_cons, List.foldl_nil, List.getD_cons_zero, List.getD_cons_succ, List.getD_nil, cond_true, cond_false, Act.put, List.setIfInBounds_toArray, List.set_cons_zero, List.set_cons_succ, h33, h38] at hb
            clear h33
            clear h38
            subst hb
            rw [if_pos (by rfl)]
            go_wp2_with fail
            exact hK.out _ _ ⟨_, rfl, hS, rfl, AllP.same _⟩
          refine RelySteps.cons (RelyStep.mk [39] [] rfl rfl rfl (fun xv wS hS hV bq hb K hK => ?_)) ?_
          · obtain ⟨h39, _⟩ := hV
            have h39 : xv 39 = _ := h39
            simp only [putsOf, List.foldl_cons, List.foldl_nil, List.getD_cons_zero, List.getD_cons_succ, List.getD_nil, cond_true, cond_false, Act.put, List.setIfInBounds_toArray, List.set_cons_zero, List.set_cons_succ, h39] at hb
            clear h39
            subst hb
            rw [if_pos (by rfl)]
            go_wp2_with fail
            exact hK.out _ _ ⟨_, rfl, hS, rfl, AllP.same _⟩
          exact RelySteps.nil
        case rE =>
          intro xv wE hS hV
          have h40 := hV 40 (by decide) (by decide)
          clear hV
          simp only [putsOf, List.foldl_cons, List.foldl_nil, List.getD_cons_zero, List.getD_cons_succ, List.getD_nil, cond_true, cond_false, Act.put, List.setIfInBounds_toArray, List.set_cons_zero, List.set_cons_succ]
          have h40 : xv 40 = _ := h40
          rw [h40]; clear h40
          generalize xv 0 = y0 at *
          generalize xv 1 = y1 at *
          generalize xv 2 = y2 at *
          generalize xv 3 = y3 at *
          generalize xv 4 = y4 at *
          generalize xv 5 = y5 at *
          generalize xv 6 = y6 at *
          generalize xv 7 = y7 at *
          generalize xv 8 = y8 at *
          generalize xv 9 = y9 at *
          generalize xv 10 = y10 at *
          generalize xv 11 = y11 at *
          generalize xv 12 = y12 at *
          generalize xv 13 = y13 at *
          generalize xv 14 = y14 at *
          generalize xv 15 = y15 at *
          generalize xv 16 = y16 at *
          generalize xv 17 = y17 at *
          generalize xv 18 = y18 at *
          generalize xv 19 = y19 at *
          generalize xv 20 = y20 at *
          generalize xv 21 = y21 at *
          generalize xv 22 = y22 at *
          generalize xv 23 = y23 at *
          generalize xv 24 = y24 at *
          generalize xv 25 = y25 at *
          generalize xv 26 = y26 at *
          generalize xv 27 = y27 at *
          generalize xv 28 = y28 at *
          generalize xv 29 = y29 at *
          generalize xv 30 = y30 at *
          generalize xv 31 = y31 at *
          generalize xv 32 = y32 at *
          generalize xv 33 = y33 at *
          generalize xv 34 = y34 at *
          generalize xv 35 = y35 at *
          generalize xv 36 = y36 at *
          generalize xv 37 = y37 at *
          generalize xv 38 = y38 at *
          generalize xv 39 = y39 at *
          have HS9 := Lib.hid hS
          clear hS
          go_wp2
          go_ret
          exact ⟨rfl, HB.out.trans (HS9.out.mono HB.out.size)⟩
end Go.Proofs.YtebgcehcnenjiaaDoor
