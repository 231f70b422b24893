/-
  What the laws of layer 9 ask first.
-/
import Derived.Test.YtebgcehcnenjiaaDoorRdc
import Derived.Test.YtebgcehcnenjiaaDoorDig
import Derived.Test.YtebgcehcnenjiaaDoorPsame
import Derived.Test.YtebgcehcnenjiaaDoorCode2
import Derived.Test.YtebgcehcnenjiaaDoorRfn2
import Derived.Test.YtebgcehcnenjiaaDoorNames
namespace Go.Proofs.YtebgcehcnenjiaaDoor
open Go.RowKit
set_option linter.unusedVariables false
set_option linter.unusedSimpArgs false
def haltsP : Pg := ⟨[], [[⟨25, 0, 0, 0, 0, 0⟩]]⟩
def badP : Pg := ⟨[], [[⟨26, 0, 0, 0, 0, 0⟩]]⟩
abbrev hB : ByteArray := ⟨#[0, 1, 1, 25, 0, 0, 0, 0, 0]⟩
abbrev hX : ByteArray := ⟨#[0, 1, 1, 25, 0, 0, 0, 0, 0, 120]⟩
theorem h_pr : prE haltsP = hB := by decide +kernel
theorem h_prc : prC haltsP = 0 := by decide +kernel
theorem h_bad : prE badP = ⟨#[]⟩ := by decide +kernel
theorem h_badc : prC badP = 1 := by decide +kernel
theorem h_rdb : rdB hB = true := by decide +kernel
theorem h_rdc : rdC hB = 0 := by unfold rdC; rw [h_rdb]; rfl
theorem h_enc : encB haltsP = true := by decide +kernel
theorem h_rdp : rdP hB = haltsP := by
  have h1 := h_pr
  unfold prE at h1
  rw [h_enc, if_pos rfl] at h1
  have h2 := prRd_of h_enc
  unfold rdP
  rw [h_rdb, if_pos rfl, ← h1, h2]
theorem x_rdb : rdB hX = false := by decide +kernel
theorem x_rdc : rdC hX = 3 := by unfold rdC; rw [x_rdb]; rfl
theorem h_recv : fdN ⟨#[114, 101, 99, 118]⟩ = 19 := by decide +kernel
theorem h_none : fdN ⟨#[]⟩ = 0 := by decide +kernel
theorem h_send : nmB 18 = ⟨#[115, 101, 110, 100]⟩ := by decide +kernel
theorem h_same : sameB haltsP haltsP = true := decide_eq_true ⟨rfl, rfl⟩
theorem h_r256 : rightB ⟨15, 0, 0, 0, 0, 256⟩ = true := by decide +kernel
theorem h_r257 : rightB ⟨15, 0, 0, 0, 0, 257⟩ = false := by decide +kernel
theorem h_ok : pgOk haltsP := by
  refine ⟨fun x hx => (by cases hx), fun l hl x hx => ?_⟩
  simp [haltsP] at hl
  subst hl
  simp at hx
  subst hx
  exact ⟨⟨by decide, by decide⟩, ⟨by decide, by decide⟩, ⟨by decide, by decide⟩, ⟨by decide, by decide⟩, ⟨by decide, by decide⟩, by decide⟩
theorem seq_litS {w : World} {g n sz : Nat} {T : TypeId} {cs : Array Value} (h : Lies w g T cs) (hn : cs.size = n * sz) (hm : n ≤ 1000000) : SeqS w sz (.slice (some ⟨g, 0, none⟩) n n) n cs.toList :=
  ⟨by simpa using hn, _, _, rfl, Nat.le_refl _, by unfold maxLen; omega, (fun h => by cases h), fun k u hu => ⟨g, 0, rfl, by rw [Nat.zero_add, h.cell]; simpa using hu⟩⟩
theorem Lies.at_ {w : World} {t : TypeId} {cs : Array Value} {g : Nat} (h : w.heap.size = g) : Lies (w.alloc (.cells cs t)) g t cs := by subst h; exact Lies.made _ _ _
/-- A program of the call's own. -/
def PgOut (w : World) (p : Pg) (e : Ending) (w' : World) : Prop := ∃ A c B d, e = .returned (.agg (pgC A c B d p)) ∧ PgAt w' A c B d p ∧ Below w.heap.size w w'
set_option maxHeartbeats 4000000 in
set_option maxRecDepth 100000 in
theorem halts_any (w : World) : Calls Tryd.prog 28 #[] w (PgOut w haltsP) := by
  go_enter Tryd.func28, Tryd.ntmps28
  go_wp2
  refine bodyPost_ret (v := .agg #[.slice none 0 0, .slice (some ⟨w.heap.size + 1 + 1, 0, none⟩) 1 1]) (by simp [results, Tryd.results28, go_sem]) rfl ?_
  refine ⟨none, 0, some ⟨w.heap.size + 1 + 1, 0, none⟩, 1, rfl, ⟨SeqS.of_owns (World.ownsRow_nil _ 0 67 3), [.slice (some ⟨w.heap.size + 1, 0, none⟩) 1 1], ?_, ?_⟩, ?_⟩
  · exact seq_litS (n := 1) (sz := 1) (Lies.at_ (by simp)) rfl (by omega)
  · intro i l hl
    match i, hl with
    | 0, hl =>
      have e : [(⟨25, 0, 0, 0, 0, 0⟩ : In)] = l := by simpa [haltsP] using hl
      subst e
      exact ⟨some ⟨w.heap.size + 1, 0, none⟩, 1, rfl, seq_litS (n := 1) (sz := 6) ((Lies.at_ (by simp)).alloc _) rfl (by omega)⟩
    | i + 1, hl => simp [haltsP] at hl
  · exact (((Below.refl _ _).alloc (Nat.le_refl _) _).alloc (by simp) _).alloc (by simp; omega) _
def awV (A : Option Addr) (c : Nat) (B : Option Addr) (d : Nat) (g : Int) : Nat → Value → World → Prop
  | 0, v, _ => v = .string hB
  | 1, v, _ => v = .bool true
  | 2, v, _ => v = .bool true
  | 3, v, _ => v = .int .i64 0
  | 4, v, _ => v = .bool true
  | 5, v, _ => v = .bool true
  | 6, v, _ => v = .bool true
  | 7, v, _ => v = .agg (pgC A c B d haltsP)
  | 8, v, w => ∃ A c B d, v = .agg (pgC A c B d haltsP) ∧ PgAt w A c B d haltsP
  | 9, v, _ => v = .bool true
  | 10, v, _ => v = .bool true
  | 11, v, _ => v = .bool true
  | 12, v, _ => v = .int .i64 0
  | 13, v, _ => v = .bool true
  | 14, v, _ => v = .bool true
  | 15, v, _ => v = .bool true
  | 16, v, _ => v = .int .i64 3
  | 17, v, _ => v = .bool true
  | 18, v, _ => v = .bool true
  | 19, v, _ => v = .bool true
  | 20, v, _ => v = .int .i64 1
  | 21, v, _ => v = .bool true
  | 22, v, _ => v = .bool true
  | 23, v, _ => v = .bool true
  | 24, v, _ => v = .int .i64 19
  | 25, v, _ => v = .bool true
  | 26, v, _ => v = .bool true
  | 27, v, _ => v = .bool true
  | 28, v, _ => v = .bool true
  | 29, v, _ => v = .bool true
  | 30, v, _ => v = .bool true
  | 31, v, _ => v = .bool false
  | 32, v, _ => v = .bool true
  | 33, v, _ => v = .bool true
  | 34, v, _ => v = .bool true
  | 35, v, _ => v = .string ⟨#[115, 101, 110, 100]⟩
  | 36, v, _ => v = .bool true
  | 37, v, _ => v = .bool true
  | 38, v, _ => v = .bool true
  | 39, v, _ => v = .bool true
  | 40, v, _ => v = .bool true
  | 41, v, _ => v = .bool true
  | 42, v, _ => v = .bool false
  | 43, v, _ => v = .bool true
  | 44, v, _ => v = .bool true
  | 45, v, _ => v = .bool true
  | 46, v, _ => v = .bool true
  | 47, v, _ => v = .bool true
  | 48, v, _ => v = .bool true
  | 49, v, _ => v = .bool false
  | 50, v, _ => v = .bool true
  | 51, v, _ => v = .bool true
  | 52, v, _ => v = .bool true
  | 53, v, _ => v = .agg (inC ⟨15, 0, 0, 0, 0, 256⟩)
  | 54, v, _ => v = .bool true
  | 55, v, _ => v = .bool true
  | 56, v, _ => v = .bool true
  | 57, v, _ => v = .agg (inC ⟨15, 0, 0, 0, 0, 257⟩)
  | 58, v, _ => v = .bool false
  | 59, v, _ => v = .bool true
  | 60, v, _ => v = .bool true
  | 61, v, _ => v = .bool true
  | 62, v, w => ∃ A c B d, v = .agg (pgC A c B d haltsP) ∧ PgAt w A c B d haltsP
  | 63, v, _ => v = .int .u32 g
  | 64, v, w => ∃ A c B d, v = .agg (pgC A c B d haltsP) ∧ PgAt w A c B d haltsP
  | 65, v, _ => v = .int .u32 g
  | 66, v, _ => v = .bool true
  | 67, v, _ => v = .bool true
  | 68, v, _ => v = .bool true
  | _, _, _ => True
theorem awV_below {A : Option Addr} {c : Nat} {B : Option Addr} {d : Nat} {g : Int} {w w' : World} (hb : Below w.heap.size w w') {j : Nat} {u : Value} (h : awV A c B d g j u w) : awV A c B d g j u w' := by
  match j with
  | 0 => exact h
  | 1 => exact h
  | 2 => exact h
  | 3 => exact h
  | 4 => exact h
  | 5 => exact h
  | 6 => exact h
  | 7 => exact h
  | 8 => obtain ⟨A1, c1, B1, d1, e, hp⟩ := h; exact ⟨A1, c1, B1, d1, e, hp.later hb⟩
  | 9 => exact h
  | 10 => exact h
  | 11 => exact h
  | 12 => exact h
  | 13 => exact h
  | 14 => exact h
  | 15 => exact h
  | 16 => exact h
  | 17 => exact h
  | 18 => exact h
  | 19 => exact h
  | 20 => exact h
  | 21 => exact h
  | 22 => exact h
  | 23 => exact h
  | 24 => exact h
  | 25 => exact h
  | 26 => exact h
  | 27 => exact h
  | 28 => exact h
  | 29 => exact h
  | 30 => exact h
  | 31 => exact h
  | 32 => exact h
  | 33 => exact h
  | 34 => exact h
  | 35 => exact h
  | 36 => exact h
  | 37 => exact h
  | 38 => exact h
  | 39 => exact h
  | 40 => exact h
  | 41 => exact h
  | 42 => exact h
  | 43 => exact h
  | 44 => exact h
  | 45 => exact h
  | 46 => exact h
  | 47 => exact h
  | 48 => exact h
  | 49 => exact h
  | 50 => exact h
  | 51 => exact h
  | 52 => exact h
  | 53 => exact h
  | 54 => exact h
  | 55 => exact h
  | 56 => exact h
  | 57 => exact h
  | 58 => exact h
  | 59 => exact h
  | 60 => exact h
  | 61 => exact h
  | 62 => obtain ⟨A1, c1, B1, d1, e, hp⟩ := h; exact ⟨A1, c1, B1, d1, e, hp.later hb⟩
  | 63 => exact h
  | 64 => obtain ⟨A1, c1, B1, d1, e, hp⟩ := h; exact ⟨A1, c1, B1, d1, e, hp.later hb⟩
  | 65 => exact h
  | 66 => exact h
  | 67 => exact h
  | 68 => exact h
  | _ + 69 => trivial
set_option maxHeartbeats 8000000 in
set_option maxRecDepth 100000 in
theorem awake_any (w : World) (h : NamesAt w) : Calls Tryd.prog 9 #[] w fun e w' => e = .returned (.bool true) ∧ Below w.heap.size w w' := by
  have HN := Lib.hid h
  have hgl := h.lt
  have HB := Lib.hid (Below.refl w.heap.size w)
  clear h
  go_enter Tryd.func9, Tryd.ntmps9
  go_wp2_with fail
  refine (halts_any _).mono ?_
  rintro e w1 ⟨A, c, B, d, rfl, hp, hbm⟩
  replace HB := Lib.hid (HB.out.trans ((hbm).mono HB.out.size))
  clear hbm
  have HC := Lib.hid (cprint_any haltsP A c B d _ hp)
  rw [h_pr, h_prc] at HC
  clear hp
  go_wp2_with fail
  refine HC.out.mono ?_
  rintro e w2 ⟨rfl, hbm⟩
  replace HB := Lib.hid (HB.out.trans ((hbm).mono HB.out.size))
  clear hbm
  clear HC
  have HC := Lib.hid (fun w => codeRead hB w (by decide))
  rw [h_rdp, h_rdc] at HC
  go_wp2_with fail
  refine (HC.out _).mono ?_
  rintro e w3 ⟨A3, c3, B3, d3, rfl, hp, hbm⟩
  have HP3 := Lib.hid (hp.later ((Below.refl w3.heap.size w3).alloc (Nat.le_refl _) (.cells (pgC A3 c3 B3 d3 haltsP) 35)))
  have HL3 := Lib.hid (Lies.made w3 35 (pgC A3 c3 B3 d3 haltsP))
  replace HB := Lib.hid (HB.out.trans ((hbm).mono HB.out.size))
  clear hbm
  replace HB := Lib.hid (HB.out.alloc HB.out.size (.cells (pgC A3 c3 B3 d3 haltsP) 35))
  clear HC hp
  have HC := Lib.hid (fun w => codeRead hX w (by decide))
  rw [x_rdc] at HC
  have happ : (⟨#[0, 1, 1, 25, 0, 0, 0, 0, 0]⟩ : ByteArray) ++ (⟨#[120]⟩ : ByteArray) = hX := by decide +kernel
  go_wp2_with fail
  generalize w3.alloc (.cells (pgC A3 c3 B3 d3 haltsP) 35) = w4 at *
  generalize w3.heap.size = b3 at *
  refine (HC.out _).mono ?_
  rintro e w5 ⟨A5, c5, B5, d5, rfl, hp, hbx⟩
  replace HP3 := Lib.hid (HP3.out.later hbx)
  replace HL3 := Lib.hid (HL3.out.below hbx HL3.out.lt)
  replace HB := Lib.hid (HB.out.trans (hbx.mono HB.out.size))
  clear hbx
  clear HC hp
  generalize rdP hX = pX at *
  have hbx : Below w5.heap.size w5 (w5.alloc (.cells (pgC A5 c5 B5 d5 pX) 35)) := (Below.refl _ _).alloc (Nat.le_refl _) _
  replace HP3 := Lib.hid (HP3.out.later hbx)
  replace HL3 := Lib.hid (HL3.out.below hbx HL3.out.lt)
  replace HB := Lib.hid (HB.out.trans (hbx.mono HB.out.size))
  clear hbx
  go_upto_region 4 with (fail)
  generalize w5.alloc (.cells (pgC A5 c5 B5 d5 pX) 35) = w6 at *
  clear happ
  have hbx : Below w6.heap.size w6 ((w6.alloc (.cells #[.int .i64 26, .int .i64 0, .int .i64 0, .int .i64 0, .int .i64 0, .int .u64 0] 24)).alloc (.cells #[.slice (some ⟨w6.heap.size, 0, none⟩) 1 1] 51)) := ((Below.refl _ _).alloc (Nat.le_refl _) _).alloc (by simp) _
  have hpb : PgAt ((w6.alloc (.cells #[.int .i64 26, .int .i64 0, .int .i64 0, .int .i64 0, .int .i64 0, .int .u64 0] 24)).alloc (.cells #[.slice (some ⟨w6.heap.size, 0, none⟩) 1 1] 51)) none 0 (some ⟨w6.heap.size + 1, 0, none⟩) 1 badP := by
    refine ⟨SeqS.of_owns (World.ownsRow_nil _ 0 67 3), [.slice (some ⟨w6.heap.size, 0, none⟩) 1 1], seq_litS (n := 1) (sz := 1) (Lies.at_ (by simp)) rfl (by omega), ?_⟩
    intro i l hl
    match i, hl with
    | 0, hl =>
      have e : [(⟨26, 0, 0, 0, 0, 0⟩ : In)] = l := by simpa [badP] using hl
      subst e
      exact ⟨some ⟨w6.heap.size, 0, none⟩, 1, rfl, seq_litS (n := 1) (sz := 6) ((Lies.at_ rfl).alloc _) rfl (by omega)⟩
    | i + 1, hl => simp [badP] at hl
  have HPB := Lib.hid hpb
  replace HP3 := Lib.hid (HP3.out.later hbx)
  replace HL3 := Lib.hid (HL3.out.below hbx HL3.out.lt)
  replace HB := Lib.hid (HB.out.trans (hbx.mono HB.out.size))
  clear hbx
  clear hpb
  go_wp2_with fail
  generalize (w6.alloc (.cells #[.int .i64 26, .int .i64 0, .int .i64 0, .int .i64 0, .int .i64 0, .int .u64 0] 24)).alloc (.cells #[.slice (some ⟨w6.heap.size, 0, none⟩) 1 1] 51) = w7 at *
  have HC := Lib.hid (cprint_any badP none 0 (some ⟨w6.heap.size + 1, 0, none⟩) 1 w7 HPB.out)
  rw [h_bad, h_badc] at HC
  refine HC.out.mono ?_
  rintro e w8 ⟨rfl, hbx⟩
  replace HP3 := Lib.hid (HP3.out.later hbx)
  replace HL3 := Lib.hid (HL3.out.below hbx HL3.out.lt)
  replace HB := Lib.hid (HB.out.trans (hbx.mono HB.out.size))
  clear hbx
  clear HC HPB
  generalize w6.heap.size = n6 at *
  have HC := Lib.hid (find_any ⟨#[114, 101, 99, 118]⟩ w8 (HN.out.later HB.out hgl))
  rw [h_recv] at HC
  go_wp2_with fail
  refine HC.out.mono ?_
  rintro e w9 ⟨rfl, rfl⟩
  clear HC
  have HC := Lib.hid (find_any ⟨#[]⟩ w8 (HN.out.later HB.out hgl))
  rw [h_none] at HC
  go_wp2_with fail
  refine HC.out.mono ?_
  rintro e w9 ⟨rfl, rfl⟩
  clear HC
  have HNM := Lib.hid (fun w (hw : Below w8.heap.size w8 w) => name_any 18 w (HN.out.later (HB.out.trans (hw.mono HB.out.size)) hgl))
  rw [h_send] at HNM
  have HC256 := Lib.hid (fun w => right_any ⟨15, 0, 0, 0, 0, 256⟩ w)
  rw [h_r256] at HC256
  have HC257 := Lib.hid (fun w => right_any ⟨15, 0, 0, 0, 0, 257⟩ w)
  rw [h_r257] at HC257
  have HSM := Lib.hid (fun A c B d w (hw : Below w8.heap.size w8 w) hp => rfSame haltsP haltsP A3 c3 B3 d3 A c B d w (HP3.out.later hw) hp)
  rw [h_same] at HSM
  have HDG := Lib.hid (fun A c B d w hp => codeDigest haltsP A c B d w hp)
  have HDR := Lib.hid (fun A c B d w hp => rfDigest haltsP A c B d w hp h_ok)
  generalize dgN haltsP = dg at *
  go_wp2_with fail
  refine wp_region_rely (fun q => Below w8.heap.size w8 q) (awV A3 c3 B3 d3 dg) [some 45, some 46, some 47, some 48, some 49, some 50, some 51, some 52, some 53, some 54, some 55, some 56, some 57, some 58, some 59, some 60, some 61, some 62, some 63, some 64, some 65, some 66, some 67, some 68, some 69, some 70, some 71, some 72, some 73, some 74, some 75, some 76, some 77, some 78, some 79, some 80, some 81, some 82, some 83, some 84, some 85, some 86, some 87, some 88, some 89, some 90, some 91, some 92, some 93, some 94, some 95, some 96, some 97, some 98, some 99, some 100, some 101, some 102, some 103, some 104, some 105, some 106, some 107, some 108, some 109, some 110, some 111, some 112, some 0] [[], [0], [1], [2], [3, 2], [2, 4], [5], [6], [6], [7, 8, 6], [6, 9], [10], [11], [12, 11], [11, 13], [14], [15], [16, 15], [15, 17], [18], [19], [20, 19], [19, 21], [22], [23], [24, 23], [23, 25], [26], [27], [27, 28], [29], [30], [31, 30], [30, 32], [33], [34], [35, 34], [34, 36], [37], [38], [38, 39], [40], [41], [42, 41], [41, 43], [44], [45], [45, 46], [47], [48], [49, 48], [48, 50], [51], [52], [53, 52], [52, 54], [55], [56], [57, 56], [58, 56], [56, 59], [60], [61], [62, 61], [61], [64, 61], [63, 65, 61], [61, 66], [67]] [[], [0], [0, 1], [1], [1, 3], [1, 3, 4], [1, 4, 5], [5], [5], [5, 7, 8], [5, 7, 8, 9], [7, 8, 9, 10], [10], [10, 12], [10, 12, 13], [10, 13, 14], [14], [14, 16], [14, 16, 17], [14, 17, 18], [18], [18, 20], [18, 20, 21], [18, 21, 22], [22], [22, 24], [22, 24, 25], [22, 25, 26], [26], [26, 27, 28], [26, 28, 29], [29], [29, 31], [29, 31, 32], [29, 32, 33], [33], [33, 35], [33, 35, 36], [36, 37], [37], [37, 38, 39], [38, 39, 40], [40], [40, 42], [40, 42, 43], [43, 44], [44], [44, 45, 46], [45, 46, 47], [47], [47, 49], [47, 49, 50], [50, 51], [51], [51, 53], [51, 53, 54], [53, 54, 55], [55], [55, 57], [55, 57, 58], [55, 58, 59], [57, 59, 60], [60], [60, 62], [60, 62], [60, 64], [60, 62, 63, 64, 65], [60, 63, 65, 66], [0, 1, 2, 3, 4, 5, 6, 7, 8, 9, 10, 11, 12, 13, 14, 15, 16, 17, 18, 19, 20, 21, 22, 23, 24, 25, 26, 27, 28, 29, 30, 31, 32, 33, 34, 35, 36, 37, 38, 39, 40, 41, 42, 43, 44, 45, 46, 47, 48, 49, 50, 51, 52, 53, 54, 55, 56, 57, 58, 59, 60, 61, 62, 63, 64, 65, 66, 67]] [[2, 3, 4, 5, 6, 7, 8, 9, 10, 11, 12, 13, 14, 15, 16, 17, 18, 19, 20, 21, 22, 23, 24, 25, 26, 27, 28, 29, 30, 31, 32, 33, 34, 35, 36, 37, 38, 39, 40, 41, 42, 43, 44, 45, 46, 47, 48, 49, 50, 51, 52, 53, 54, 55, 56, 57, 58, 59, 60, 61, 62, 63, 64, 65, 66, 67], [3, 4, 5, 6, 7, 8, 9, 10, 11, 12, 13, 14, 15, 16, 17, 18, 19, 20, 21, 22, 23, 24, 25, 26, 27, 28, 29, 30, 31, 32, 33, 34, 35, 36, 37, 38, 39, 40, 41, 42, 43, 44, 45, 46, 47, 48, 49, 50, 51, 52, 53, 54, 55, 56, 57, 58, 59, 60, 61, 62, 63, 64, 65, 66, 67], [7, 8, 9, 10, 11, 12, 13, 14, 15, 16, 17, 18, 19, 20, 21, 22, 23, 24, 25, 26, 27, 28, 29, 30, 31, 32, 33, 34, 35, 36, 37, 38, 39, 40, 41, 42, 43, 44, 45, 46, 47, 48, 49, 50, 51, 52, 53, 54, 55, 56, 57, 58, 59, 60, 61, 62, 63, 64, 65, 66, 67], [2, 5, 6, 7, 8, 9, 10, 11, 12, 13, 14, 15, 16, 17, 18, 19, 20, 21, 22, 23, 24, 25, 26, 27, 28, 29, 30, 31, 32, 33, 34, 35, 36, 37, 38, 39, 40, 41, 42, 43, 44, 45, 46, 47, 48, 49, 50, 51, 52, 53, 54, 55, 56, 57, 58, 59, 60, 61, 62, 63, 64, 65, 66, 67], [2, 6, 7, 8, 9, 10, 11, 12, 13, 14, 15, 16, 17, 18, 19, 20, 21, 22, 23, 24, 25, 26, 27, 28, 29, 30, 31, 32, 33, 34, 35, 36, 37, 38, 39, 40, 41, 42, 43, 44, 45, 46, 47, 48, 49, 50, 51, 52, 53, 54, 55, 56, 57, 58, 59, 60, 61, 62, 63, 64, 65, 66, 67], [2, 7, 8, 9, 10, 11, 12, 13, 14, 15, 16, 17, 18, 19, 20, 21, 22, 23, 24, 25, 26, 27, 28, 29, 30, 31, 32, 33, 34, 35, 36, 37, 38, 39, 40, 41, 42, 43, 44, 45, 46, 47, 48, 49, 50, 51, 52, 53, 54, 55, 56, 57, 58, 59, 60, 61, 62, 63, 64, 65, 66, 67], [2, 11, 12, 13, 14, 15, 16, 17, 18, 19, 20, 21, 22, 23, 24, 25, 26, 27, 28, 29, 30, 31, 32, 33, 34, 35, 36, 37, 38, 39, 40, 41, 42, 43, 44, 45, 46, 47, 48, 49, 50, 51, 52, 53, 54, 55, 56, 57, 58, 59, 60, 61, 62, 63, 64, 65, 66, 67], [0, 2, 3, 6, 8, 10, 11, 12, 13, 14, 15, 16, 17, 18, 19, 20, 21, 22, 23, 24, 25, 26, 27, 28, 29, 30, 31, 32, 33, 34, 35, 36, 37, 38, 39, 40, 41, 42, 43, 44, 45, 46, 47, 48, 49, 50, 51, 52, 53, 54, 55, 56, 57, 58, 59, 60, 61, 62, 63, 64, 65, 66, 67], [0, 2, 3, 6, 7, 10, 11, 12, 13, 14, 15, 16, 17, 18, 19, 20, 21, 22, 23, 24, 25, 26, 27, 28, 29, 30, 31, 32, 33, 34, 35, 36, 37, 38, 39, 40, 41, 42, 43, 44, 45, 46, 47, 48, 49, 50, 51, 52, 53, 54, 55, 56, 57, 58, 59, 60, 61, 62, 63, 64, 65, 66, 67], [0, 2, 3, 6, 12, 13, 14, 15, 16, 17, 18, 19, 20, 21, 22, 23, 24, 25, 26, 27, 28, 29, 30, 31, 32, 33, 34, 35, 36, 37, 38, 39, 40, 41, 42, 43, 44, 45, 46, 47, 48, 49, 50, 51, 52, 53, 54, 55, 56, 57, 58, 59, 60, 61, 62, 63, 64, 65, 66, 67], [0, 2, 3, 6, 12, 13, 14, 15, 16, 17, 18, 19, 20, 21, 22, 23, 24, 25, 26, 27, 28, 29, 30, 31, 32, 33, 34, 35, 36, 37, 38, 39, 40, 41, 42, 43, 44, 45, 46, 47, 48, 49, 50, 51, 52, 53, 54, 55, 56, 57, 58, 59, 60, 61, 62, 63, 64, 65, 66, 67], [0, 1, 2, 3, 4, 6, 16, 17, 18, 19, 20, 21, 22, 23, 24, 25, 26, 27, 28, 29, 30, 31, 32, 33, 34, 35, 36, 37, 38, 39, 40, 41, 42, 43, 44, 45, 46, 47, 48, 49, 50, 51, 52, 53, 54, 55, 56, 57, 58, 59, 60, 61, 62, 63, 64, 65, 66, 67], [0, 1, 2, 3, 4, 5, 6, 11, 14, 15, 16, 17, 18, 19, 20, 21, 22, 23, 24, 25, 26, 27, 28, 29, 30, 31, 32, 33, 34, 35, 36, 37, 38, 39, 40, 41, 42, 43, 44, 45, 46, 47, 48, 49, 50, 51, 52, 53, 54, 55, 56, 57, 58, 59, 60, 61, 62, 63, 64, 65, 66, 67], [0, 1, 2, 3, 4, 5, 6, 11, 15, 16, 17, 18, 19, 20, 21, 22, 23, 24, 25, 26, 27, 28, 29, 30, 31, 32, 33, 34, 35, 36, 37, 38, 39, 40, 41, 42, 43, 44, 45, 46, 47, 48, 49, 50, 51, 52, 53, 54, 55, 56, 57, 58, 59, 60, 61, 62, 63, 64, 65, 66, 67], [0, 1, 2, 3, 4, 5, 6, 11, 16, 17, 18, 19, 20, 21, 22, 23, 24, 25, 26, 27, 28, 29, 30, 31, 32, 33, 34, 35, 36, 37, 38, 39, 40, 41, 42, 43, 44, 45, 46, 47, 48, 49, 50, 51, 52, 53, 54, 55, 56, 57, 58, 59, 60, 61, 62, 63, 64, 65, 66, 67], [0, 1, 2, 3, 4, 5, 6, 11, 20, 21, 22, 23, 24, 25, 26, 27, 28, 29, 30, 31, 32, 33, 34, 35, 36, 37, 38, 39, 40, 41, 42, 43, 44, 45, 46, 47, 48, 49, 50, 51, 52, 53, 54, 55, 56, 57, 58, 59, 60, 61, 62, 63, 64, 65, 66, 67], [0, 1, 2, 3, 4, 5, 6, 7, 8, 9, 11, 12, 15, 18, 19, 20, 21, 22, 23, 24, 25, 26, 27, 28, 29, 30, 31, 32, 33, 34, 35, 36, 37, 38, 39, 40, 41, 42, 43, 44, 45, 46, 47, 48, 49, 50, 51, 52, 53, 54, 55, 56, 57, 58, 59, 60, 61, 62, 63, 64, 65, 66, 67], [0, 1, 2, 3, 4, 5, 6, 7, 8, 9, 11, 12, 15, 19, 20, 21, 22, 23, 24, 25, 26, 27, 28, 29, 30, 31, 32, 33, 34, 35, 36, 37, 38, 39, 40, 41, 42, 43, 44, 45, 46, 47, 48, 49, 50, 51, 52, 53, 54, 55, 56, 57, 58, 59, 60, 61, 62, 63, 64, 65, 66, 67], [0, 1, 2, 3, 4, 5, 6, 7, 8, 9, 11, 12, 15, 20, 21, 22, 23, 24, 25, 26, 27, 28, 29, 30, 31, 32, 33, 34, 35, 36, 37, 38, 39, 40, 41, 42, 43, 44, 45, 46, 47, 48, 49, 50, 51, 52, 53, 54, 55, 56, 57, 58, 59, 60, 61, 62, 63, 64, 65, 66, 67], [0, 1, 2, 3, 4, 5, 6, 7, 8, 9, 11, 12, 15, 24, 25, 26, 27, 28, 29, 30, 31, 32, 33, 34, 35, 36, 37, 38, 39, 40, 41, 42, 43, 44, 45, 46, 47, 48, 49, 50, 51, 52, 53, 54, 55, 56, 57, 58, 59, 60, 61, 62, 63, 64, 65, 66, 67], [0, 1, 2, 3, 4, 5, 6, 7, 8, 9, 10, 11, 12, 13, 15, 16, 19, 22, 23, 24, 25, 26, 27, 28, 29, 30, 31, 32, 33, 34, 35, 36, 37, 38, 39, 40, 41, 42, 43, 44, 45, 46, 47, 48, 49, 50, 51, 52, 53, 54, 55, 56, 57, 58, 59, 60, 61, 62, 63, 64, 65, 66, 67], [0, 1, 2, 3, 4, 5, 6, 7, 8, 9, 10, 11, 12, 13, 15, 16, 19, 23, 24, 25, 26, 27, 28, 29, 30, 31, 32, 33, 34, 35, 36, 37, 38, 39, 40, 41, 42, 43, 44, 45, 46, 47, 48, 49, 50, 51, 52, 53, 54, 55, 56, 57, 58, 59, 60, 61, 62, 63, 64, 65, 66, 67], [0, 1, 2, 3, 4, 5, 6, 7, 8, 9, 10, 11, 12, 13, 15, 16, 19, 24, 25, 26, 27, 28, 29, 30, 31, 32, 33, 34, 35, 36, 37, 38, 39, 40, 41, 42, 43, 44, 45, 46, 47, 48, 49, 50, 51, 52, 53, 54, 55, 56, 57, 58, 59, 60, 61, 62, 63, 64, 65, 66, 67], [0, 1, 2, 3, 4, 5, 6, 7, 8, 9, 10, 11, 12, 13, 15, 16, 19, 28, 29, 30, 31, 32, 33, 34, 35, 36, 37, 38, 39, 40, 41, 42, 43, 44, 45, 46, 47, 48, 49, 50, 51, 52, 53, 54, 55, 56, 57, 58, 59, 60, 61, 62, 63, 64, 65, 66, 67], [0, 1, 2, 3, 4, 5, 6, 7, 8, 9, 10, 11, 12, 13, 14, 15, 16, 17, 19, 20, 23, 26, 27, 28, 29, 30, 31, 32, 33, 34, 35, 36, 37, 38, 39, 40, 41, 42, 43, 44, 45, 46, 47, 48, 49, 50, 51, 52, 53, 54, 55, 56, 57, 58, 59, 60, 61, 62, 63, 64, 65, 66, 67], [0, 1, 2, 3, 4, 5, 6, 7, 8, 9, 10, 11, 12, 13, 14, 15, 16, 17, 19, 20, 23, 27, 28, 29, 30, 31, 32, 33, 34, 35, 36, 37, 38, 39, 40, 41, 42, 43, 44, 45, 46, 47, 48, 49, 50, 51, 52, 53, 54, 55, 56, 57, 58, 59, 60, 61, 62, 63, 64, 65, 66, 67], [0, 1, 2, 3, 4, 5, 6, 7, 8, 9, 10, 11, 12, 13, 14, 15, 16, 17, 19, 20, 23, 28, 29, 30, 31, 32, 33, 34, 35, 36, 37, 38, 39, 40, 41, 42, 43, 44, 45, 46, 47, 48, 49, 50, 51, 52, 53, 54, 55, 56, 57, 58, 59, 60, 61, 62, 63, 64, 65, 66, 67], [0, 1, 2, 3, 4, 5, 6, 7, 8, 9, 10, 11, 12, 13, 14, 15, 16, 17, 19, 20, 23, 31, 32, 33, 34, 35, 36, 37, 38, 39, 40, 41, 42, 43, 44, 45, 46, 47, 48, 49, 50, 51, 52, 53, 54, 55, 56, 57, 58, 59, 60, 61, 62, 63, 64, 65, 66, 67], [0, 1, 2, 3, 4, 5, 6, 7, 8, 9, 10, 11, 12, 13, 14, 15, 16, 17, 18, 19, 20, 21, 23, 24, 27, 30, 31, 32, 33, 34, 35, 36, 37, 38, 39, 40, 41, 42, 43, 44, 45, 46, 47, 48, 49, 50, 51, 52, 53, 54, 55, 56, 57, 58, 59, 60, 61, 62, 63, 64, 65, 66, 67], [0, 1, 2, 3, 4, 5, 6, 7, 8, 9, 10, 11, 12, 13, 14, 15, 16, 17, 18, 19, 20, 21, 23, 24, 31, 32, 33, 34, 35, 36, 37, 38, 39, 40, 41, 42, 43, 44, 45, 46, 47, 48, 49, 50, 51, 52, 53, 54, 55, 56, 57, 58, 59, 60, 61, 62, 63, 64, 65, 66, 67], [0, 1, 2, 3, 4, 5, 6, 7, 8, 9, 10, 11, 12, 13, 14, 15, 16, 17, 18, 19, 20, 21, 23, 24, 35, 36, 37, 38, 39, 40, 41, 42, 43, 44, 45, 46, 47, 48, 49, 50, 51, 52, 53, 54, 55, 56, 57, 58, 59, 60, 61, 62, 63, 64, 65, 66, 67], [0, 1, 2, 3, 4, 5, 6, 7, 8, 9, 10, 11, 12, 13, 14, 15, 16, 17, 18, 19, 20, 21, 22, 23, 24, 25, 27, 30, 33, 34, 35, 36, 37, 38, 39, 40, 41, 42, 43, 44, 45, 46, 47, 48, 49, 50, 51, 52, 53, 54, 55, 56, 57, 58, 59, 60, 61, 62, 63, 64, 65, 66, 67], [0, 1, 2, 3, 4, 5, 6, 7, 8, 9, 10, 11, 12, 13, 14, 15, 16, 17, 18, 19, 20, 21, 22, 23, 24, 25, 27, 30, 34, 35, 36, 37, 38, 39, 40, 41, 42, 43, 44, 45, 46, 47, 48, 49, 50, 51, 52, 53, 54, 55, 56, 57, 58, 59, 60, 61, 62, 63, 64, 65, 66, 67], [0, 1, 2, 3, 4, 5, 6, 7, 8, 9, 10, 11, 12, 13, 14, 15, 16, 17, 18, 19, 20, 21, 22, 23, 24, 25, 27, 30, 35, 36, 37, 38, 39, 40, 41, 42, 43, 44, 45, 46, 47, 48, 49, 50, 51, 52, 53, 54, 55, 56, 57, 58, 59, 60, 61, 62, 63, 64, 65, 66, 67], [0, 1, 2, 3, 4, 5, 6, 7, 8, 9, 10, 11, 12, 13, 14, 15, 16, 17, 18, 19, 20, 21, 22, 23, 24, 25, 27, 30, 38, 39, 40, 41, 42, 43, 44, 45, 46, 47, 48, 49, 50, 51, 52, 53, 54, 55, 56, 57, 58, 59, 60, 61, 62, 63, 64, 65, 66, 67], [0, 1, 2, 3, 4, 5, 6, 7, 8, 9, 10, 11, 12, 13, 14, 15, 16, 17, 18, 19, 20, 21, 22, 23, 24, 25, 26, 27, 28, 30, 31, 34, 37, 39, 40, 41, 42, 43, 44, 45, 46, 47, 48, 49, 50, 51, 52, 53, 54, 55, 56, 57, 58, 59, 60, 61, 62, 63, 64, 65, 66, 67], [0, 1, 2, 3, 4, 5, 6, 7, 8, 9, 10, 11, 12, 13, 14, 15, 16, 17, 18, 19, 20, 21, 22, 23, 24, 25, 26, 27, 28, 30, 31, 34, 38, 39, 40, 41, 42, 43, 44, 45, 46, 47, 48, 49, 50, 51, 52, 53, 54, 55, 56, 57, 58, 59, 60, 61, 62, 63, 64, 65, 66, 67], [0, 1, 2, 3, 4, 5, 6, 7, 8, 9, 10, 11, 12, 13, 14, 15, 16, 17, 18, 19, 20, 21, 22, 23, 24, 25, 26, 27, 28, 30, 31, 34, 39, 40, 41, 42, 43, 44, 45, 46, 47, 48, 49, 50, 51, 52, 53, 54, 55, 56, 57, 58, 59, 60, 61, 62, 63, 64, 65, 66, 67], [0, 1, 2, 3, 4, 5, 6, 7, 8, 9, 10, 11, 12, 13, 14, 15, 16, 17, 18, 19, 20, 21, 22, 23, 24, 25, 26, 27, 28, 29, 30, 31, 32, 34, 41, 42, 43, 44, 45, 46, 47, 48, 49, 50, 51, 52, 53, 54, 55, 56, 57, 58, 59, 60, 61, 62, 63, 64, 65, 66, 67], [0, 1, 2, 3, 4, 5, 6, 7, 8, 9, 10, 11, 12, 13, 14, 15, 16, 17, 18, 19, 20, 21, 22, 23, 24, 25, 26, 27, 28, 29, 30, 31, 32, 33, 34, 35, 38, 42, 43, 44, 45, 46, 47, 48, 49, 50, 51, 52, 53, 54, 55, 56, 57, 58, 59, 60, 61, 62, 63, 64, 65, 66, 67], [0, 1, 2, 3, 4, 5, 6, 7, 8, 9, 10, 11, 12, 13, 14, 15, 16, 17, 18, 19, 20, 21, 22, 23, 24, 25, 26, 27, 28, 29, 30, 31, 32, 33, 34, 35, 42, 43, 44, 45, 46, 47, 48, 49, 50, 51, 52, 53, 54, 55, 56, 57, 58, 59, 60, 61, 62, 63, 64, 65, 66, 67], [0, 1, 2, 3, 4, 5, 6, 7, 8, 9, 10, 11, 12, 13, 14, 15, 16, 17, 18, 19, 20, 21, 22, 23, 24, 25, 26, 27, 28, 29, 30, 31, 32, 33, 34, 35, 36, 45, 46, 47, 48, 49, 50, 51, 52, 53, 54, 55, 56, 57, 58, 59, 60, 61, 62, 63, 64, 65, 66, 67], [0, 1, 2, 3, 4, 5, 6, 7, 8, 9, 10, 11, 12, 13, 14, 15, 16, 17, 18, 19, 20, 21, 22, 23, 24, 25, 26, 27, 28, 29, 30, 31, 32, 33, 34, 35, 36, 37, 41, 44, 46, 47, 48, 49, 50, 51, 52, 53, 54, 55, 56, 57, 58, 59, 60, 61, 62, 63, 64, 65, 66, 67], [0, 1, 2, 3, 4, 5, 6, 7, 8, 9, 10, 11, 12, 13, 14, 15, 16, 17, 18, 19, 20, 21, 22, 23, 24, 25, 26, 27, 28, 29, 30, 31, 32, 33, 34, 35, 36, 37, 41, 45, 46, 47, 48, 49, 50, 51, 52, 53, 54, 55, 56, 57, 58, 59, 60, 61, 62, 63, 64, 65, 66, 67], [0, 1, 2, 3, 4, 5, 6, 7, 8, 9, 10, 11, 12, 13, 14, 15, 16, 17, 18, 19, 20, 21, 22, 23, 24, 25, 26, 27, 28, 29, 30, 31, 32, 33, 34, 35, 36, 37, 41, 46, 47, 48, 49, 50, 51, 52, 53, 54, 55, 56, 57, 58, 59, 60, 61, 62, 63, 64, 65, 66, 67], [0, 1, 2, 3, 4, 5, 6, 7, 8, 9, 10, 11, 12, 13, 14, 15, 16, 17, 18, 19, 20, 21, 22, 23, 24, 25, 26, 27, 28, 29, 30, 31, 32, 33, 34, 35, 36, 37, 38, 39, 41, 48, 49, 50, 51, 52, 53, 54, 55, 56, 57, 58, 59, 60, 61, 62, 63, 64, 65, 66, 67], [0, 1, 2, 3, 4, 5, 6, 7, 8, 9, 10, 11, 12, 13, 14, 15, 16, 17, 18, 19, 20, 21, 22, 23, 24, 25, 26, 27, 28, 29, 30, 31, 32, 33, 34, 35, 36, 37, 38, 39, 40, 41, 42, 45, 49, 50, 51, 52, 53, 54, 55, 56, 57, 58, 59, 60, 61, 62, 63, 64, 65, 66, 67], [0, 1, 2, 3, 4, 5, 6, 7, 8, 9, 10, 11, 12, 13, 14, 15, 16, 17, 18, 19, 20, 21, 22, 23, 24, 25, 26, 27, 28, 29, 30, 31, 32, 33, 34, 35, 36, 37, 38, 39, 40, 41, 42, 49, 50, 51, 52, 53, 54, 55, 56, 57, 58, 59, 60, 61, 62, 63, 64, 65, 66, 67], [0, 1, 2, 3, 4, 5, 6, 7, 8, 9, 10, 11, 12, 13, 14, 15, 16, 17, 18, 19, 20, 21, 22, 23, 24, 25, 26, 27, 28, 29, 30, 31, 32, 33, 34, 35, 36, 37, 38, 39, 40, 41, 42, 43, 52, 53, 54, 55, 56, 57, 58, 59, 60, 61, 62, 63, 64, 65, 66, 67], [0, 1, 2, 3, 4, 5, 6, 7, 8, 9, 10, 11, 12, 13, 14, 15, 16, 17, 18, 19, 20, 21, 22, 23, 24, 25, 26, 27, 28, 29, 30, 31, 32, 33, 34, 35, 36, 37, 38, 39, 40, 41, 42, 43, 44, 48, 51, 53, 54, 55, 56, 57, 58, 59, 60, 61, 62, 63, 64, 65, 66, 67], [0, 1, 2, 3, 4, 5, 6, 7, 8, 9, 10, 11, 12, 13, 14, 15, 16, 17, 18, 19, 20, 21, 22, 23, 24, 25, 26, 27, 28, 29, 30, 31, 32, 33, 34, 35, 36, 37, 38, 39, 40, 41, 42, 43, 44, 48, 52, 53, 54, 55, 56, 57, 58, 59, 60, 61, 62, 63, 64, 65, 66, 67], [0, 1, 2, 3, 4, 5, 6, 7, 8, 9, 10, 11, 12, 13, 14, 15, 16, 17, 18, 19, 20, 21, 22, 23, 24, 25, 26, 27, 28, 29, 30, 31, 32, 33, 34, 35, 36, 37, 38, 39, 40, 41, 42, 43, 44, 48, 53, 54, 55, 56, 57, 58, 59, 60, 61, 62, 63, 64, 65, 66, 67], [0, 1, 2, 3, 4, 5, 6, 7, 8, 9, 10, 11, 12, 13, 14, 15, 16, 17, 18, 19, 20, 21, 22, 23, 24, 25, 26, 27, 28, 29, 30, 31, 32, 33, 34, 35, 36, 37, 38, 39, 40, 41, 42, 43, 44, 45, 46, 48, 56, 57, 58, 59, 60, 61, 62, 63, 64, 65, 66, 67], [0, 1, 2, 3, 4, 5, 6, 7, 8, 9, 10, 11, 12, 13, 14, 15, 16, 17, 18, 19, 20, 21, 22, 23, 24, 25, 26, 27, 28, 29, 30, 31, 32, 33, 34, 35, 36, 37, 38, 39, 40, 41, 42, 43, 44, 45, 46, 47, 48, 49, 52, 55, 56, 57, 58, 59, 60, 61, 62, 63, 64, 65, 66, 67], [0, 1, 2, 3, 4, 5, 6, 7, 8, 9, 10, 11, 12, 13, 14, 15, 16, 17, 18, 19, 20, 21, 22, 23, 24, 25, 26, 27, 28, 29, 30, 31, 32, 33, 34, 35, 36, 37, 38, 39, 40, 41, 42, 43, 44, 45, 46, 47, 48, 49, 52, 57, 58, 59, 60, 61, 62, 63, 64, 65, 66, 67], [0, 1, 2, 3, 4, 5, 6, 7, 8, 9, 10, 11, 12, 13, 14, 15, 16, 17, 18, 19, 20, 21, 22, 23, 24, 25, 26, 27, 28, 29, 30, 31, 32, 33, 34, 35, 36, 37, 38, 39, 40, 41, 42, 43, 44, 45, 46, 47, 48, 49, 52, 57, 58, 59, 60, 61, 62, 63, 64, 65, 66, 67], [0, 1, 2, 3, 4, 5, 6, 7, 8, 9, 10, 11, 12, 13, 14, 15, 16, 17, 18, 19, 20, 21, 22, 23, 24, 25, 26, 27, 28, 29, 30, 31, 32, 33, 34, 35, 36, 37, 38, 39, 40, 41, 42, 43, 44, 45, 46, 47, 48, 49, 50, 52, 61, 62, 63, 64, 65, 66, 67], [0, 1, 2, 3, 4, 5, 6, 7, 8, 9, 10, 11, 12, 13, 14, 15, 16, 17, 18, 19, 20, 21, 22, 23, 24, 25, 26, 27, 28, 29, 30, 31, 32, 33, 34, 35, 36, 37, 38, 39, 40, 41, 42, 43, 44, 45, 46, 47, 48, 49, 50, 51, 52, 56, 59, 60, 61, 62, 63, 64, 65, 66, 67], [0, 1, 2, 3, 4, 5, 6, 7, 8, 9, 10, 11, 12, 13, 14, 15, 16, 17, 18, 19, 20, 21, 22, 23, 24, 25, 26, 27, 28, 29, 30, 31, 32, 33, 34, 35, 36, 37, 38, 39, 40, 41, 42, 43, 44, 45, 46, 47, 48, 49, 50, 51, 52, 56, 60, 62, 63, 64, 65, 66, 67], [0, 1, 2, 3, 4, 5, 6, 7, 8, 9, 10, 11, 12, 13, 14, 15, 16, 17, 18, 19, 20, 21, 22, 23, 24, 25, 26, 27, 28, 29, 30, 31, 32, 33, 34, 35, 36, 37, 38, 39, 40, 41, 42, 43, 44, 45, 46, 47, 48, 49, 50, 51, 52, 56, 61, 62, 63, 64, 65, 66, 67], [0, 1, 2, 3, 4, 5, 6, 7, 8, 9, 10, 11, 12, 13, 14, 15, 16, 17, 18, 19, 20, 21, 22, 23, 24, 25, 26, 27, 28, 29, 30, 31, 32, 33, 34, 35, 36, 37, 38, 39, 40, 41, 42, 43, 44, 45, 46, 47, 48, 49, 50, 51, 52, 56, 62, 63, 64, 65, 66, 67], [0, 1, 2, 3, 4, 5, 6, 7, 8, 9, 10, 11, 12, 13, 14, 15, 16, 17, 18, 19, 20, 21, 22, 23, 24, 25, 26, 27, 28, 29, 30, 31, 32, 33, 34, 35, 36, 37, 38, 39, 40, 41, 42, 43, 44, 45, 46, 47, 48, 49, 50, 51, 52, 53, 54, 56], [0, 1, 2, 3, 4, 5, 6, 7, 8, 9, 10, 11, 12, 13, 14, 15, 16, 17, 18, 19, 20, 21, 22, 23, 24, 25, 26, 27, 28, 29, 30, 31, 32, 33, 34, 35, 36, 37, 38, 39, 40, 41, 42, 43, 44, 45, 46, 47, 48, 49, 50, 51, 52, 53, 54, 55, 56, 58, 61, 64, 65, 66, 67], [0, 1, 2, 3, 4, 5, 6, 7, 8, 9, 10, 11, 12, 13, 14, 15, 16, 17, 18, 19, 20, 21, 22, 23, 24, 25, 26, 27, 28, 29, 30, 31, 32, 33, 34, 35, 36, 37, 38, 39, 40, 41, 42, 43, 44, 45, 46, 47, 48, 49, 50, 51, 52, 53, 54, 55, 56, 58, 61, 65, 67], [0, 1, 2, 3, 4, 5, 6, 7, 8, 9, 10, 11, 12, 13, 14, 15, 16, 17, 18, 19, 20, 21, 22, 23, 24, 25, 26, 27, 28, 29, 30, 31, 32, 33, 34, 35, 36, 37, 38, 39, 40, 41, 42, 43, 44, 45, 46, 47, 48, 49, 50, 51, 52, 53, 54, 55, 56, 58, 61, 63, 66, 67], [0, 1, 2, 3, 4, 5, 6, 7, 8, 9, 10, 11, 12, 13, 14, 15, 16, 17, 18, 19, 20, 21, 22, 23, 24, 25, 26, 27, 28, 29, 30, 31, 32, 33, 34, 35, 36, 37, 38, 39, 40, 41, 42, 43, 44, 45, 46, 47, 48, 49, 50, 51, 52, 53, 54, 55, 56, 58, 61, 63, 67], [0, 1, 2, 3, 4, 5, 6, 7, 8, 9, 10, 11, 12, 13, 14, 15, 16, 17, 18, 19, 20, 21, 22, 23, 24, 25, 26, 27, 28, 29, 30, 31, 32, 33, 34, 35, 36, 37, 38, 39, 40, 41, 42, 43, 44, 45, 46, 47, 48, 49, 50, 51, 52, 53, 54, 55, 56, 58, 61], [0, 1, 2, 3, 4, 5, 6, 7, 8, 9, 10, 11, 12, 13, 14, 15, 16, 17, 18, 19, 20, 21, 22, 23, 24, 25, 26, 27, 28, 29, 30, 31, 32, 33, 34, 35, 36, 37, 38, 39, 40, 41, 42, 43, 44, 45, 46, 47, 48, 49, 50, 51, 52, 53, 54, 55, 56, 58, 61], []] [0, 1, 2, 3, 4, 5, 6, 7, 8, 9, 10, 11, 12, 13, 14, 15, 16, 17, 18, 19, 20, 21, 22, 23, 24, 25, 26, 27, 28, 29, 30, 31, 32, 33, 34, 35, 36, 37, 38, 39, 40, 41, 42, 43, 44, 45, 46, 47, 48, 49, 50, 51, 52, 53, 54, 55, 56, 57, 58, 59, 60, 61, 62, 63, 64, 65, 66, 67, 68] 69 (by kernel_rfl) (by kernel_rfl) (by kernel_rfl) (by kernel_rfl) ?rS (fun j h1 h2 => absurd (Nat.lt_of_lt_of_le h1 (Nat.le_trans (by decide) h2)) (Nat.lt_irrefl _)) ?rT ?rE
  case rS => exact below_drewN (Below.refl w8.heap.size w8) 1
  case rT =>
    refine RelySteps.cons (RelyStep.mk [] [2, 3, 4, 5, 6, 7, 8, 9, 10, 11, 12, 13, 14, 15, 16, 17, 18, 19, 20, 21, 22, 23, 24, 25, 26, 27, 28, 29, 30, 31, 32, 33, 34, 35, 36, 37, 38, 39, 40, 41, 42, 43, 44, 45, 46, 47, 48, 49, 50, 51, 52, 53, 54, 55, 56, 57, 58, 59, 60, 61, 62, 63, 64, 65, 66, 67] rfl rfl rfl (fun xv wS hS hV bq hb K hK => ?_)) ?_
    · clear hV
      simp only [putsOf, List.foldl_cons, List.foldl_nil, List.getD_cons_zero, List.getD_cons_succ, List.getD_nil, cond_true, cond_false, Act.put, List.setIfInBounds_toArray, List.set_cons_zero, List.set_cons_succ] at hb
      subst hb
      rw [if_pos (by rfl)]
      go_wp2_with fail
      exact hK.out _ _ ⟨_, rfl, hS, rfl, AllP.same _⟩
    refine RelySteps.cons (RelyStep.mk [0] [3, 4, 5, 6, 7, 8, 9, 10, 11, 12, 13, 14, 15, 16, 17, 18, 19, 20, 21, 22, 23, 24, 25, 26, 27, 28, 29, 30, 31, 32, 33, 34, 35, 36, 37, 38, 39, 40, 41, 42, 43, 44, 45, 46, 47, 48, 49, 50, 51, 52, 53, 54, 55, 56, 57, 58, 59, 60, 61, 62, 63, 64, 65, 66, 67] rfl rfl rfl (fun xv wS hS hV bq hb K hK => ?_)) ?_
    · obtain ⟨h0, _⟩ := hV
      have h0 : xv 0 = _ := h0
      simp only [putsOf, List.foldl_cons, List.foldl_nil, List.getD_cons_zero, List.getD_cons_succ, List.getD_nil, cond_true, cond_false, Act.put, List.setIfInBounds_toArray, List.set_cons_zero, List.set_cons_succ, h0] at hb
      clear h0
      subst hb
      rw [if_pos (by rfl)]
      go_wp2_with fail
      exact hK.out _ _ ⟨_, rfl, hS, rfl, AllP.same _⟩
    refine RelySteps.cons (RelyStep.mk [1] [7, 8, 9, 10, 11, 12, 13, 14, 15, 16, 17, 18, 19, 20, 21, 22, 23, 24, 25, 26, 27, 28, 29, 30, 31, 32, 33, 34, 35, 36, 37, 38, 39, 40, 41, 42, 43, 44, 45, 46, 47, 48, 49, 50, 51, 52, 53, 54, 55, 56, 57, 58, 59, 60, 61, 62, 63, 64, 65, 66, 67] rfl rfl rfl (fun xv wS hS hV bq hb K hK => ?_)) ?_
    · obtain ⟨h1, _⟩ := hV
      have h1 : xv 1 = _ := h1
      simp only [putsOf, List.foldl_cons, List.foldl_nil, List.getD_cons_zero, List.getD_cons_succ, List.getD_nil, cond_true, cond_false, Act.put, List.setIfInBounds_toArray, List.set_cons_zero, List.set_cons_succ, h1] at hb
      clear h1
      subst hb
      rw [if_pos (by rfl)]
      go_wp2_with fail
      exact hK.out _ _ ⟨_, rfl, hS, rfl, AllP.same _⟩
    refine RelySteps.cons (RelyStep.mk [2] [2, 5, 6, 7, 8, 9, 10, 11, 12, 13, 14, 15, 16, 17, 18, 19, 20, 21, 22, 23, 24, 25, 26, 27, 28, 29, 30, 31, 32, 33, 34, 35, 36, 37, 38, 39, 40, 41, 42, 43, 44, 45, 46, 47, 48, 49, 50, 51, 52, 53, 54, 55, 56, 57, 58, 59, 60, 61, 62, 63, 64, 65, 66, 67] rfl rfl rfl (fun xv wS hS hV bq hb K hK => ?_)) ?_
    · obtain ⟨h2, _⟩ := hV
      have h2 : xv 2 = _ := h2
      simp only [putsOf, List.foldl_cons, List.foldl_nil, List.getD_cons_zero, List.getD_cons_succ, List.getD_nil, cond_true, cond_false, Act.put, List.setIfInBounds_toArray, List.set_cons_zero, List.set_cons_succ, h2] at hb
      clear h2
      subst hb
      rw [if_pos (by rfl)]
      go_wp2_with fail
      exact hK.out _ _ ⟨_, rfl, hS, rfl, AllP.same _⟩
    refine RelySteps.cons (RelyStep.mk [3, 2] [2, 6, 7, 8, 9, 10, 11, 12, 13, 14, 15, 16, 17, 18, 19, 20, 21, 22, 23, 24, 25, 26, 27, 28, 29, 30, 31, 32, 33, 34, 35, 36, 37, 38, 39, 40, 41, 42, 43, 44, 45, 46, 47, 48, 49, 50, 51, 52, 53, 54, 55, 56, 57, 58, 59, 60, 61, 62, 63, 64, 65, 66, 67] rfl rfl rfl (fun xv wS hS hV bq hb K hK => ?_)) ?_
    · obtain ⟨h3, h2, _⟩ := hV
      have h3 : xv 3 = _ := h3
      have h2 : xv 2 = _ := h2
      simp only [putsOf, List.foldl_cons, List.foldl_nil, List.getD_cons_zero, List.getD_cons_succ, List.getD_nil, cond_true, cond_false, Act.put, List.setIfInBounds_toArray, List.set_cons_zero, List.set_cons_succ, h3, h2] at hb
      clear h3
      clear h2
      subst hb
      rw [if_pos (by rfl)]
      go_wp2_with fail
      exact hK.out _ _ ⟨_, rfl, hS, rfl, AllP.same _⟩
    refine RelySteps.cons (RelyStep.mk [2, 4] [2, 7, 8, 9, 10, 11, 12, 13, 14, 15, 16, 17, 18, 19, 20, 21, 22, 23, 24, 25, 26, 27, 28, 29, 30, 31, 32, 33, 34, 35, 36, 37, 38, 39, 40, 41, 42, 43, 44, 45, 46, 47, 48, 49, 50, 51, 52, 53, 54, 55, 56, 57, 58, 59, 60, 61, 62, 63, 64, 65, 66, 67] rfl rfl rfl (fun xv wS hS hV bq hb K hK => ?_)) ?_
    · obtain ⟨h2, h4, _⟩ := hV
      have h2 : xv 2 = _ := h2
      have h4 : xv 4 = _ := h4
      simp only [putsOf, List.foldl_cons, List.foldl_nil, List.getD_cons_zero, List.getD_cons_succ, List.getD_nil, cond_true, cond_false, Act.put, List.setIfInBounds_toArray, List.set_cons_zero, List.set_cons_succ, h2, h4] at hb
      clear h2
      clear h4
      subst hb
      rw [if_pos (by rfl)]
      go_wp2_with fail
      exact hK.out _ _ ⟨_, rfl, hS, rfl, AllP.same _⟩
    refine RelySteps.cons (RelyStep.mk [5] [2, 11, 12, 13, 14, 15, 16, 17, 18, 19, 20, 21, 22, 23, 24, 25, 26, 27, 28, 29, 30, 31, 32, 33, 34, 35, 36, 37, 38, 39, 40, 41, 42, 43, 44, 45, 46, 47, 48, 49, 50, 51, 52, 53, 54, 55, 56, 57, 58, 59, 60, 61, 62, 63, 64, 65, 66, 67] rfl rfl rfl (fun xv wS hS hV bq hb K hK => ?_)) ?_
    · obtain ⟨h5, _⟩ := hV
      have h5 : xv 5 = _ := h5
      simp only [putsOf, List.foldl_cons, List.foldl_nil, List.getD_cons_zero, List.getD_cons_succ, List.getD_nil, cond_true, cond_false, Act.put, List.setIfInBounds_toArray, List.set_cons_zero, List.set_cons_succ, h5] at hb
      clear h5
      subst hb
      rw [if_pos (by rfl)]
      go_wp2_with fail
      exact hK.out _ _ ⟨_, rfl, hS, rfl, AllP.same _⟩
    refine RelySteps.cons (RelyStep.mk [6] [0, 2, 3, 6, 8, 10, 11, 12, 13, 14, 15, 16, 17, 18, 19, 20, 21, 22, 23, 24, 25, 26, 27, 28, 29, 30, 31, 32, 33, 34, 35, 36, 37, 38, 39, 40, 41, 42, 43, 44, 45, 46, 47, 48, 49, 50, 51, 52, 53, 54, 55, 56, 57, 58, 59, 60, 61, 62, 63, 64, 65, 66, 67] rfl rfl rfl (fun xv wS hS hV bq hb K hK => ?_)) ?_
    · obtain ⟨h6, _⟩ := hV
      have h6 : xv 6 = _ := h6
      simp only [putsOf, List.foldl_cons, List.foldl_nil, List.getD_cons_zero, List.getD_cons_succ, List.getD_nil, cond_true, cond_false, Act.put, List.setIfInBounds_toArray, List.set_cons_zero, List.set_cons_succ, h6] at hb
      clear h6
      subst hb
      rw [if_pos (by rfl)]
      (have q1 := HL3.out.below hS HL3.out.lt; have x0 := (q1.cell 0).trans (show _ = some (Value.slice A3 haltsP.rs.length c3) from rfl); have x1 := (q1.cell 1).trans (show _ = some (Value.slice B3 haltsP.ts.length d3) from rfl); have xl := q1.lt; clear q1)
      go_wp2_with fail
      exact hK.out _ _ ⟨_, rfl, hS, rfl, AllP.same _⟩
    refine RelySteps.cons (RelyStep.mk [6] [0, 2, 3, 6, 7, 10, 11, 12, 13, 14, 15, 16, 17, 18, 19, 20, 21, 22, 23, 24, 25, 26, 27, 28, 29, 30, 31, 32, 33, 34, 35, 36, 37, 38, 39, 40, 41, 42, 43, 44, 45, 46, 47, 48, 49, 50, 51, 52, 53, 54, 55, 56, 57, 58, 59, 60, 61, 62, 63, 64, 65, 66, 67] rfl rfl rfl (fun xv wS hS hV bq hb K hK => ?_)) ?_
    · obtain ⟨h6, _⟩ := hV
      have h6 : xv 6 = _ := h6
      simp only [putsOf, List.foldl_cons, List.foldl_nil, List.getD_cons_zero, List.getD_cons_succ, List.getD_nil, cond_true, cond_false, Act.put, List.setIfInBounds_toArray, List.set_cons_zero, List.set_cons_succ, h6] at hb
      clear h6
      subst hb
      rw [if_pos (by rfl)]
      have HSS := Lib.hid hS
      clear hS
      go_wp2_with fail
      refine (halts_any _).mono ?_
      rintro e w9 ⟨A, c, B, d, rfl, hp, hb⟩
      exact hK.out _ _ ⟨_, rfl, HSS.out.trans (hb.mono HSS.out.size), ⟨A, c, B, d, rfl, hp⟩, AllP.of _ (fun j _ u h => awV_below hb h)⟩
    refine RelySteps.cons (RelyStep.mk [7, 8, 6] [0, 2, 3, 6, 12, 13, 14, 15, 16, 17, 18, 19, 20, 21, 22, 23, 24, 25, 26, 27, 28, 29, 30, 31, 32, 33, 34, 35, 36, 37, 38, 39, 40, 41, 42, 43, 44, 45, 46, 47, 48, 49, 50, 51, 52, 53, 54, 55, 56, 57, 58, 59, 60, 61, 62, 63, 64, 65, 66, 67] rfl rfl rfl (fun xv wS hS hV bq hb K hK => ?_)) ?_
    · obtain ⟨h7, h8, h6, _⟩ := hV
      have h7 : xv 7 = _ := h7
      have h6 : xv 6 = _ := h6
      simp only [putsOf, List.foldl_cons, List.foldl_nil, List.getD_cons_zero, List.getD_cons_succ, List.getD_nil, cond_true, cond_false, Act.put, List.setIfInBounds_toArray, List.set_cons_zero, List.set_cons_succ, h7, h6] at hb
      clear h7
      generalize xv 8 = y8 at *
      clear h6
      subst hb
      rw [if_pos (by rfl)]
      have HSS := Lib.hid hS
      obtain ⟨A, c, B, d, rfl, hp⟩ := h8
      clear hS
      go_wp2_with fail
      refine (HSM.out _ _ _ _ _ HSS.out hp).mono ?_
      rintro e w9 ⟨rfl, hb⟩
      exact hK.out _ _ ⟨_, rfl, HSS.out.trans (hb.mono HSS.out.size), rfl, AllP.of _ (fun j _ u h => awV_below hb h)⟩
    refine RelySteps.cons (RelyStep.mk [6, 9] [0, 2, 3, 6, 12, 13, 14, 15, 16, 17, 18, 19, 20, 21, 22, 23, 24, 25, 26, 27, 28, 29, 30, 31, 32, 33, 34, 35, 36, 37, 38, 39, 40, 41, 42, 43, 44, 45, 46, 47, 48, 49, 50, 51, 52, 53, 54, 55, 56, 57, 58, 59, 60, 61, 62, 63, 64, 65, 66, 67] rfl rfl rfl (fun xv wS hS hV bq hb K hK => ?_)) ?_
    · obtain ⟨h6, h9, _⟩ := hV
      have h6 : xv 6 = _ := h6
      have h9 : xv 9 = _ := h9
      simp only [putsOf, List.foldl_cons, List.foldl_nil, List.getD_cons_zero, List.getD_cons_succ, List.getD_nil, cond_true, cond_false, Act.put, List.setIfInBounds_toArray, List.set_cons_zero, List.set_cons_succ, h6, h9] at hb
      clear h6
      clear h9
      subst hb
      rw [if_pos (by rfl)]
      go_wp2_with fail
      exact hK.out _ _ ⟨_, rfl, hS, rfl, AllP.same _⟩
    refine RelySteps.cons (RelyStep.mk [10] [0, 1, 2, 3, 4, 6, 16, 17, 18, 19, 20, 21, 22, 23, 24, 25, 26, 27, 28, 29, 30, 31, 32, 33, 34, 35, 36, 37, 38, 39, 40, 41, 42, 43, 44, 45, 46, 47, 48, 49, 50, 51, 52, 53, 54, 55, 56, 57, 58, 59, 60, 61, 62, 63, 64, 65, 66, 67] rfl rfl rfl (fun xv wS hS hV bq hb K hK => ?_)) ?_
    · obtain ⟨h10, _⟩ := hV
      have h10 : xv 10 = _ := h10
      simp only [putsOf, List.foldl_cons, List.foldl_nil, List.getD_cons_zero, List.getD_cons_succ, List.getD_nil, cond_true, cond_false, Act.put, List.setIfInBounds_toArray, List.set_cons_zero, List.set_cons_succ, h10] at hb
      clear h10
      subst hb
      rw [if_pos (by rfl)]
      go_wp2_with fail
      exact hK.out _ _ ⟨_, rfl, hS, rfl, AllP.same _⟩
    refine RelySteps.cons (RelyStep.mk [11] [0, 1, 2, 3, 4, 5, 6, 11, 14, 15, 16, 17, 18, 19, 20, 21, 22, 23, 24, 25, 26, 27, 28, 29, 30, 31, 32, 33, 34, 35, 36, 37, 38, 39, 40, 41, 42, 43, 44, 45, 46, 47, 48, 49, 50, 51, 52, 53, 54, 55, 56, 57, 58, 59, 60, 61, 62, 63, 64, 65, 66, 67] rfl rfl rfl (fun xv wS hS hV bq hb K hK => ?_)) ?_
    · obtain ⟨h11, _⟩ := hV
      have h11 : xv 11 = _ := h11
      simp only [putsOf, List.foldl_cons, List.foldl_nil, List.getD_cons_zero, List.getD_cons_succ, List.getD_nil, cond_true, cond_false, Act.put, List.setIfInBounds_toArray, List.set_cons_zero, List.set_cons_succ, h11] at hb
      clear h11
      subst hb
      rw [if_pos (by rfl)]
      go_wp2_with fail
      exact hK.out _ _ ⟨_, rfl, hS, rfl, AllP.same _⟩
    refine RelySteps.cons (RelyStep.mk [12, 11] [0, 1, 2, 3, 4, 5, 6, 11, 15, 16, 17, 18, 19, 20, 21, 22, 23, 24, 25, 26, 27, 28, 29, 30, 31, 32, 33, 34, 35, 36, 37, 38, 39, 40, 41, 42, 43, 44, 45, 46, 47, 48, 49, 50, 51, 52, 53, 54, 55, 56, 57, 58, 59, 60, 61, 62, 63, 64, 65, 66, 67] rfl rfl rfl (fun xv wS hS hV bq hb K hK => ?_)) ?_
    · obtain ⟨h12, h11, _⟩ := hV
      have h12 : xv 12 = _ := h12
      have h11 : xv 11 = _ := h11
      simp only [putsOf, List.foldl_cons, List.foldl_nil, List.getD_cons_zero, List.getD_cons_succ, List.getD_nil, cond_true, cond_false, Act.put, List.setIfInBounds_toArray, List.set_cons_zero, List.set_cons_succ, h12, h11] at hb
      clear h12
      clear h11
      subst hb
      rw [if_pos (by rfl)]
      go_wp2_with fail
      exact hK.out _ _ ⟨_, rfl, hS, rfl, AllP.same _⟩
    refine RelySteps.cons (RelyStep.mk [11, 13] [0, 1, 2, 3, 4, 5, 6, 11, 16, 17, 18, 19, 20, 21, 22, 23, 24, 25, 26, 27, 28, 29, 30, 31, 32, 33, 34, 35, 36, 37, 38, 39, 40, 41, 42, 43, 44, 45, 46, 47, 48, 49, 50, 51, 52, 53, 54, 55, 56, 57, 58, 59, 60, 61, 62, 63, 64, 65, 66, 67] rfl rfl rfl (fun xv wS hS hV bq hb K hK => ?_)) ?_
    · obtain ⟨h11, h13, _⟩ := hV
      have h11 : xv 11 = _ := h11
      have h13 : xv 13 = _ := h13
      simp only [putsOf, List.foldl_cons, List.foldl_nil, List.getD_cons_zero, List.getD_cons_succ, List.getD_nil, cond_true, cond_false, Act.put, List.setIfInBounds_toArray, List.set_cons_zero, List.set_cons_succ, h11, h13] at hb
      clear h11
      clear h13
      subst hb
      rw [if_pos (by rfl)]
      go_wp2_with fail
      exact hK.out _ _ ⟨_, rfl, hS, rfl, AllP.same _⟩
    refine RelySteps.cons (RelyStep.mk [14] [0, 1, 2, 3, 4, 5, 6, 11, 20, 21, 22, 23, 24, 25, 26, 27, 28, 29, 30, 31, 32, 33, 34, 35, 36, 37, 38, 39, 40, 41, 42, 43, 44, 45, 46, 47, 48, 49, 50, 51, 52, 53, 54, 55, 56, 57, 58, 59, 60, 61, 62, 63, 64, 65, 66, 67] rfl rfl rfl (fun xv wS hS hV bq hb K hK => ?_)) ?_
    · obtain ⟨h14, _⟩ := hV
      have h14 : xv 14 = _ := h14
      simp only [putsOf, List.foldl_cons, List.foldl_nil, List.getD_cons_zero, List.getD_cons_succ, List.getD_nil, cond_true, cond_false, Act.put, List.setIfInBounds_toArray, List.set_cons_zero, List.set_cons_succ, h14] at hb
      clear h14
      subst hb
      rw [if_pos (by rfl)]
      go_wp2_with fail
      exact hK.out _ _ ⟨_, rfl, hS, rfl, AllP.same _⟩
    refine RelySteps.cons (RelyStep.mk [15] [0, 1, 2, 3, 4, 5, 6, 7, 8, 9, 11, 12, 15, 18, 19, 20, 21, 22, 23, 24, 25, 26, 27, 28, 29, 30, 31, 32, 33, 34, 35, 36, 37, 38, 39, 40, 41, 42, 43, 44, 45, 46, 47, 48, 49, 50, 51, 52, 53, 54, 55, 56, 57, 58, 59, 60, 61, 62, 63, 64, 65, 66, 67] rfl rfl rfl (fun xv wS hS hV bq hb K hK => ?_)) ?_
    · obtain ⟨h15, _⟩ := hV
      have h15 : xv 15 = _ := h15
      simp only [putsOf, List.foldl_cons, List.foldl_nil, List.getD_cons_zero, List.getD_cons_succ, List.getD_nil, cond_true, cond_false, Act.put, List.setIfInBounds_toArray, List.set_cons_zero, List.set_cons_succ, h15] at hb
      clear h15
      subst hb
      rw [if_pos (by rfl)]
      go_wp2_with fail
      exact hK.out _ _ ⟨_, rfl, hS, rfl, AllP.same _⟩
    refine RelySteps.cons (RelyStep.mk [16, 15] [0, 1, 2, 3, 4, 5, 6, 7, 8, 9, 11, 12, 15, 19, 20, 21, 22, 23, 24, 25, 26, 27, 28, 29, 30, 31, 32, 33, 34, 35, 36, 37, 38, 39, 40, 41, 42, 43, 44, 45, 46, 47, 48, 49, 50, 51, 52, 53, 54, 55, 56, 57, 58, 59, 60, 61, 62, 63, 64, 65, 66, 67] rfl rfl rfl (fun xv wS hS hV bq hb K hK => ?_)) ?_
    · obtain ⟨h16, h15, _⟩ := hV
      have h16 : xv 16 = _ := h16
      have h15 : xv 15 = _ := h15
      simp only [putsOf, List.foldl_cons, List.foldl_nil, List.getD_cons_zero, List.getD_cons_succ, List.getD_nil, cond_true, cond_false, Act.put, List.setIfInBounds_toArray, List.set_cons_zero, List.set_cons_succ, h16, h15] at hb
      clear h16
      clear h15
      subst hb
      rw [if_pos (by rfl)]
      go_wp2_with fail
      exact hK.out _ _ ⟨_, rfl, hS, rfl, AllP.same _⟩
    refine RelySteps.cons (RelyStep.mk [15, 17] [0, 1, 2, 3, 4, 5, 6, 7, 8, 9, 11, 12, 15, 20, 21, 22, 23, 24, 25, 26, 27, 28, 29, 30, 31, 32, 33, 34, 35, 36, 37, 38, 39, 40, 41, 42, 43, 44, 45, 46, 47, 48, 49, 50, 51, 52, 53, 54, 55, 56, 57, 58, 59, 60, 61, 62, 63, 64, 65, 66, 67] rfl rfl rfl (fun xv wS hS hV bq hb K hK => ?_)) ?_
    · obtain ⟨h15, h17, _⟩ := hV
      have h15 : xv 15 = _ := h15
      have h17 : xv 17 = _ := h17
      simp only [putsOf, List.foldl_cons, List.foldl_nil, List.getD_cons_zero, List.getD_cons_succ, List.getD_nil, cond_true, cond_false, Act.put, List.setIfInBounds_toArray, List.set_cons_zero, List.set_cons_succ, h15, h17] at hb
      clear h15
      clear h17
      subst hb
      rw [if_pos (by rfl)]
      go_wp2_with fail
      exact hK.out _ _ ⟨_, rfl, hS, rfl, AllP.same _⟩
    refine RelySteps.cons (RelyStep.mk [18] [0, 1, 2, 3, 4, 5, 6, 7, 8, 9, 11, 12, 15, 24, 25, 26, 27, 28, 29, 30, 31, 32, 33, 34, 35, 36, 37, 38, 39, 40, 41, 42, 43, 44, 45, 46, 47, 48, 49, 50, 51, 52, 53, 54, 55, 56, 57, 58, 59, 60, 61, 62, 63, 64, 65, 66, 67] rfl rfl rfl (fun xv wS hS hV bq hb K hK => ?_)) ?_
    · obtain ⟨h18, _⟩ := hV
      have h18 : xv 18 = _ := h18
      simp only [putsOf, List.foldl_cons, List.foldl_nil, List.getD_cons_zero, List.getD_cons_succ, List.getD_nil, cond_true, cond_false, Act.put, List.setIfInBounds_toArray, List.set_cons_zero, List.set_cons_succ, h18] at hb
      clear h18
      subst hb
      rw [if_pos (by rfl)]
      go_wp2_with fail
      exact hK.out _ _ ⟨_, rfl, hS, rfl, AllP.same _⟩
    refine RelySteps.cons (RelyStep.mk [19] [0, 1, 2, 3, 4, 5, 6, 7, 8, 9, 10, 11, 12, 13, 15, 16, 19, 22, 23, 24, 25, 26, 27, 28, 29, 30, 31, 32, 33, 34, 35, 36, 37, 38, 39, 40, 41, 42, 43, 44, 45, 46, 47, 48, 49, 50, 51, 52, 53, 54, 55, 56, 57, 58, 59, 60, 61, 62, 63, 64, 65, 66, 67] rfl rfl rfl (fun xv wS hS hV bq hb K hK => ?_)) ?_
    · obtain ⟨h19, _⟩ := hV
      have h19 : xv 19 = _ := h19
      simp only [putsOf, List.foldl_cons, List.foldl_nil, List.getD_cons_zero, List.getD_cons_succ, List.getD_nil, cond_true, cond_false, Act.put, List.setIfInBounds_toArray, List.set_cons_zero, List.set_cons_succ, h19] at hb
      clear h19
      subst hb
      rw [if_pos (by rfl)]
      go_wp2_with fail
      exact hK.out _ _ ⟨_, rfl, hS, rfl, AllP.same _⟩
    refine RelySteps.cons (RelyStep.mk [20, 19] [0, 1, 2, 3, 4, 5, 6, 7, 8, 9, 10, 11, 12, 13, 15, 16, 19, 23, 24, 25, 26, 27, 28, 29, 30, 31, 32, 33, 34, 35, 36, 37, 38, 39, 40, 41, 42, 43, 44, 45, 46, 47, 48, 49, 50, 51, 52, 53, 54, 55, 56, 57, 58, 59, 60, 61, 62, 63, 64, 65, 66, 67] rfl rfl rfl (fun xv wS hS hV bq hb K hK => ?_)) ?_
    · obtain ⟨h20, h19, _⟩ := hV
      have h20 : xv 20 = _ := h20
      have h19 : xv 19 = _ := h19
      simp only [putsOf, List.foldl_cons, List.foldl_nil, List.getD_cons_zero, List.getD_cons_succ, List.getD_nil, cond_true, cond_false, Act.put, List.setIfInBounds_toArray, List.set_cons_zero, List.set_cons_succ, h20, h19] at hb
      clear h20
      clear h19
      subst hb
      rw [if_pos (by rfl)]
      go_wp2_with fail
      exact hK.out _ _ ⟨_, rfl, hS, rfl, AllP.same _⟩
    refine RelySteps.cons (RelyStep.mk [19, 21] [0, 1, 2, 3, 4, 5, 6, 7, 8, 9, 10, 11, 12, 13, 15, 16, 19, 24, 25, 26, 27, 28, 29, 30, 31, 32, 33, 34, 35, 36, 37, 38, 39, 40, 41, 42, 43, 44, 45, 46, 47, 48, 49, 50, 51, 52, 53, 54, 55, 56, 57, 58, 59, 60, 61, 62, 63, 64, 65, 66, 67] rfl rfl rfl (fun xv wS hS hV bq hb K hK => ?_)) ?_
    · obtain ⟨h19, h21, _⟩ := hV
      have h19 : xv 19 = _ := h19
      have h21 : xv 21 = _ := h21
      simp only [putsOf, List.foldl_cons, List.foldl_nil, List.getD_cons_zero, List.getD_cons_succ, List.getD_nil, cond_true, cond_false, Act.put, List.setIfInBounds_toArray, List.set_cons_zero, List.set_cons_succ, h19, h21] at hb
      clear h19
      clear h21
      subst hb
      rw [if_pos (by rfl)]
      go_wp2_with fail
      exact hK.out _ _ ⟨_, rfl, hS, rfl, AllP.same _⟩
    refine RelySteps.cons (RelyStep.mk [22] [0, 1, 2, 3, 4, 5, 6, 7, 8, 9, 10, 11, 12, 13, 15, 16, 19, 28, 29, 30, 31, 32, 33, 34, 35, 36, 37, 38, 39, 40, 41, 42, 43, 44, 45, 46, 47, 48, 49, 50, 51, 52, 53, 54, 55, 56, 57, 58, 59, 60, 61, 62, 63, 64, 65, 66, 67] rfl rfl rfl (fun xv wS hS hV bq hb K hK => ?_)) ?_
    · obtain ⟨h22, _⟩ := hV
      have h22 : xv 22 = _ := h22
      simp only [putsOf, List.foldl_cons, List.foldl_nil, List.getD_cons_zero, List.getD_cons_succ, List.getD_nil, cond_true, cond_false, Act.put, List.setIfInBounds_toArray, List.set_cons_zero, List.set_cons_succ, h22] at hb
      clear h22
      subst hb
      rw [if_pos (by rfl)]
      go_wp2_with fail
      exact hK.out _ _ ⟨_, rfl, hS, rfl, AllP.same _⟩
    refine RelySteps.cons (RelyStep.mk [23] [0, 1, 2, 3, 4, 5, 6, 7, 8, 9, 10, 11, 12, 13, 14, 15, 16, 17, 19, 20, 23, 26, 27, 28, 29, 30, 31, 32, 33, 34, 35, 36, 37, 38, 39, 40, 41, 42, 43, 44, 45, 46, 47, 48, 49, 50, 51, 52, 53, 54, 55, 56, 57, 58, 59, 60, 61, 62, 63, 64, 65, 66, 67] rfl rfl rfl (fun xv wS hS hV bq hb K hK => ?_)) ?_
    · obtain ⟨h23, _⟩ := hV
      have h23 : xv 23 = _ := h23
      simp only [putsOf, List.foldl_cons, List.foldl_nil, List.getD_cons_zero, List.getD_cons_succ, List.getD_nil, cond_true, cond_false, Act.put, List.setIfInBounds_toArray, List.set_cons_zero, List.set_cons_succ, h23] at hb
      clear h23
      subst hb
      rw [if_pos (by rfl)]
      go_wp2_with fail
      exact hK.out _ _ ⟨_, rfl, hS, rfl, AllP.same _⟩
    refine RelySteps.cons (RelyStep.mk [24, 23] [0, 1, 2, 3, 4, 5, 6, 7, 8, 9, 10, 11, 12, 13, 14, 15, 16, 17, 19, 20, 23, 27, 28, 29, 30, 31, 32, 33, 34, 35, 36, 37, 38, 39, 40, 41, 42, 43, 44, 45, 46, 47, 48, 49, 50, 51, 52, 53, 54, 55, 56, 57, 58, 59, 60, 61, 62, 63, 64, 65, 66, 67] rfl rfl rfl (fun xv wS hS hV bq hb K hK => ?_)) ?_
    · obtain ⟨h24, h23, _⟩ := hV
      have h24 : xv 24 = _ := h24
      have h23 : xv 23 = _ := h23
      simp only [putsOf, List.foldl_cons, List.foldl_nil, List.getD_cons_zero, List.getD_cons_succ, List.getD_nil, cond_true, cond_false, Act.put, List.setIfInBounds_toArray, List.set_cons_zero, List.set_cons_succ, h24, h23] at hb
      clear h24
      clear h23
      subst hb
      rw [if_pos (by rfl)]
      go_wp2_with fail
      exact hK.out _ _ ⟨_, rfl, hS, rfl, AllP.same _⟩
    refine RelySteps.cons (RelyStep.mk [23, 25] [0, 1, 2, 3, 4, 5, 6, 7, 8, 9, 10, 11, 12, 13, 14, 15, 16, 17, 19, 20, 23, 28, 29, 30, 31, 32, 33, 34, 35, 36, 37, 38, 39, 40, 41, 42, 43, 44, 45, 46, 47, 48, 49, 50, 51, 52, 53, 54, 55, 56, 57, 58, 59, 60, 61, 62, 63, 64, 65, 66, 67] rfl rfl rfl (fun xv wS hS hV bq hb K hK => ?_)) ?_
    · obtain ⟨h23, h25, _⟩ := hV
      have h23 : xv 23 = _ := h23
      have h25 : xv 25 = _ := h25
      simp only [putsOf, List.foldl_cons, List.foldl_nil, List.getD_cons_zero, List.getD_cons_succ, List.getD_nil, cond_true, cond_false, Act.put, List.setIfInBounds_toArray, List.set_cons_zero, List.set_cons_succ, h23, h25] at hb
      clear h23
      clear h25
      subst hb
      rw [if_pos (by rfl)]
      go_wp2_with fail
      exact hK.out _ _ ⟨_, rfl, hS, rfl, AllP.same _⟩
    refine RelySteps.cons (RelyStep.mk [26] [0, 1, 2, 3, 4, 5, 6, 7, 8, 9, 10, 11, 12, 13, 14, 15, 16, 17, 19, 20, 23, 31, 32, 33, 34, 35, 36, 37, 38, 39, 40, 41, 42, 43, 44, 45, 46, 47, 48, 49, 50, 51, 52, 53, 54, 55, 56, 57, 58, 59, 60, 61, 62, 63, 64, 65, 66, 67] rfl rfl rfl (fun xv wS hS hV bq hb K hK => ?_)) ?_
    · obtain ⟨h26, _⟩ := hV
      have h26 : xv 26 = _ := h26
      simp only [putsOf, List.foldl_cons, List.foldl_nil, List.getD_cons_zero, List.getD_cons_succ, List.getD_nil, cond_true, cond_false, Act.put, List.setIfInBounds_toArray, List.set_cons_zero, List.set_cons_succ, h26] at hb
      clear h26
      subst hb
      rw [if_pos (by rfl)]
      go_wp2_with fail
      exact hK.out _ _ ⟨_, rfl, hS, rfl, AllP.same _⟩
    refine RelySteps.cons (RelyStep.mk [27] [0, 1, 2, 3, 4, 5, 6, 7, 8, 9, 10, 11, 12, 13, 14, 15, 16, 17, 18, 19, 20, 21, 23, 24, 27, 30, 31, 32, 33, 34, 35, 36, 37, 38, 39, 40, 41, 42, 43, 44, 45, 46, 47, 48, 49, 50, 51, 52, 53, 54, 55, 56, 57, 58, 59, 60, 61, 62, 63, 64, 65, 66, 67] rfl rfl rfl (fun xv wS hS hV bq hb K hK => ?_)) ?_
    · obtain ⟨h27, _⟩ := hV
      have h27 : xv 27 = _ := h27
      simp only [putsOf, List.foldl_cons, List.foldl_nil, List.getD_cons_zero, List.getD_cons_succ, List.getD_nil, cond_true, cond_false, Act.put, List.setIfInBounds_toArray, List.set_cons_zero, List.set_cons_succ, h27] at hb
      clear h27
      subst hb
      rw [if_pos (by rfl)]
      go_wp2_with fail
      exact hK.out _ _ ⟨_, rfl, hS, rfl, AllP.same _⟩
    refine RelySteps.cons (RelyStep.mk [27, 28] [0, 1, 2, 3, 4, 5, 6, 7, 8, 9, 10, 11, 12, 13, 14, 15, 16, 17, 18, 19, 20, 21, 23, 24, 31, 32, 33, 34, 35, 36, 37, 38, 39, 40, 41, 42, 43, 44, 45, 46, 47, 48, 49, 50, 51, 52, 53, 54, 55, 56, 57, 58, 59, 60, 61, 62, 63, 64, 65, 66, 67] rfl rfl rfl (fun xv wS hS hV bq hb K hK => ?_)) ?_
    · obtain ⟨h27, h28, _⟩ := hV
      have h27 : xv 27 = _ := h27
      have h28 : xv 28 = _ := h28
      simp only [putsOf, List.foldl_cons, List.foldl_nil, List.getD_cons_zero, List.getD_cons_succ, List.getD_nil, cond_true, cond_false, Act.put, List.setIfInBounds_toArray, List.set_cons_zero, List.set_cons_succ, h27, h28] at hb
      clear h27
      clear h28
      subst hb
      rw [if_pos (by rfl)]
      go_wp2_with fail
      exact hK.out _ _ ⟨_, rfl, hS, rfl, AllP.same _⟩
    refine RelySteps.cons (RelyStep.mk [29] [0, 1, 2, 3, 4, 5, 6, 7, 8, 9, 10, 11, 12, 13, 14, 15, 16, 17, 18, 19, 20, 21, 23, 24, 35, 36, 37, 38, 39, 40, 41, 42, 43, 44, 45, 46, 47, 48, 49, 50, 51, 52, 53, 54, 55, 56, 57, 58, 59, 60, 61, 62, 63, 64, 65, 66, 67] rfl rfl rfl (fun xv wS hS hV bq hb K hK => ?_)) ?_
    · obtain ⟨h29, _⟩ := hV
      have h29 : xv 29 = _ := h29
      simp only [putsOf, List.foldl_cons, List.foldl_nil, List.getD_cons_zero, List.getD_cons_succ, List.getD_nil, cond_true, cond_false, Act.put, List.setIfInBounds_toArray, List.set_cons_zero, List.set_cons_succ, h29] at hb
      clear h29
      subst hb
      rw [if_pos (by rfl)]
      go_wp2_with fail
      exact hK.out _ _ ⟨_, rfl, hS, rfl, AllP.same _⟩
    refine RelySteps.cons (RelyStep.mk [30] [0, 1, 2, 3, 4, 5, 6, 7, 8, 9, 10, 11, 12, 13, 14, 15, 16, 17, 18, 19, 20, 21, 22, 23, 24, 25, 27, 30, 33, 34, 35, 36, 37, 38, 39, 40, 41, 42, 43, 44, 45, 46, 47, 48, 49, 50, 51, 52, 53, 54, 55, 56, 57, 58, 59, 60, 61, 62, 63, 64, 65, 66, 67] rfl rfl rfl (fun xv wS hS hV bq hb K hK => ?_)) ?_
    · obtain ⟨h30, _⟩ := hV
      have h30 : xv 30 = _ := h30
      simp only [putsOf, List.foldl_cons, List.foldl_nil, List.getD_cons_zero, List.getD_cons_succ, List.getD_nil, cond_true, cond_false, Act.put, List.setIfInBounds_toArray, List.set_cons_zero, List.set_cons_succ, h30] at hb
      clear h30
      subst hb
      rw [if_pos (by rfl)]
      go_wp2_with fail
      exact hK.out _ _ ⟨_, rfl, hS, rfl, AllP.same _⟩
    refine RelySteps.cons (RelyStep.mk [31, 30] [0, 1, 2, 3, 4, 5, 6, 7, 8, 9, 10, 11, 12, 13, 14, 15, 16, 17, 18, 19, 20, 21, 22, 23, 24, 25, 27, 30, 34, 35, 36, 37, 38, 39, 40, 41, 42, 43, 44, 45, 46, 47, 48, 49, 50, 51, 52, 53, 54, 55, 56, 57, 58, 59, 60, 61, 62, 63, 64, 65, 66, 67] rfl rfl rfl (fun xv wS hS hV bq hb K hK => ?_)) ?_
    · obtain ⟨h31, h30, _⟩ := hV
      have h31 : xv 31 = _ := h31
      have h30 : xv 30 = _ := h30
      simp only [putsOf, List.foldl_cons, List.foldl_nil, List.getD_cons_zero, List.getD_cons_succ, List.getD_nil, cond_true, cond_false, Act.put, List.setIfInBounds_toArray, List.set_cons_zero, List.set_cons_succ, h31, h30] at hb
      clear h31
      clear h30
      subst hb
      rw [if_pos (by rfl)]
      go_wp2_with fail
      exact hK.out _ _ ⟨_, rfl, hS, rfl, AllP.same _⟩
    refine RelySteps.cons (RelyStep.mk [30, 32] [0, 1, 2, 3, 4, 5, 6, 7, 8, 9, 10, 11, 12, 13, 14, 15, 16, 17, 18, 19, 20, 21, 22, 23, 24, 25, 27, 30, 35, 36, 37, 38, 39, 40, 41, 42, 43, 44, 45, 46, 47, 48, 49, 50, 51, 52, 53, 54, 55, 56, 57, 58, 59, 60, 61, 62, 63, 64, 65, 66, 67] rfl rfl rfl (fun xv wS hS hV bq hb K hK => ?_)) ?_
    · obtain ⟨h30, h32, _⟩ := hV
      have h30 : xv 30 = _ := h30
      have h32 : xv 32 = _ := h32
      simp only [putsOf, List.foldl_cons, List.foldl_nil, List.getD_cons_zero, List.getD_cons_succ, List.getD_nil, cond_true, cond_false, Act.put, List.setIfInBounds_toArray, List.set_cons_zero, List.set_cons_succ, h30, h32] at hb
      clear h30
      clear h32
      subst hb
      rw [if_pos (by rfl)]
      go_wp2_with fail
      exact hK.out _ _ ⟨_, rfl, hS, rfl, AllP.same _⟩
    refine RelySteps.cons (RelyStep.mk [33] [0, 1, 2, 3, 4, 5, 6, 7, 8, 9, 10, 11, 12, 13, 14, 15, 16, 17, 18, 19, 20, 21, 22, 23, 24, 25, 27, 30, 38, 39, 40, 41, 42, 43, 44, 45, 46, 47, 48, 49, 50, 51, 52, 53, 54, 55, 56, 57, 58, 59, 60, 61, 62, 63, 64, 65, 66, 67] rfl rfl rfl (fun xv wS hS hV bq hb K hK => ?_)) ?_
    · obtain ⟨h33, _⟩ := hV
      have h33 : xv 33 = _ := h33
      simp only [putsOf, List.foldl_cons, List.foldl_nil, List.getD_cons_zero, List.getD_cons_succ, List.getD_nil, cond_true, cond_false, Act.put, List.setIfInBounds_toArray, List.set_cons_zero, List.set_cons_succ, h33] at hb
      clear h33
      subst hb
      rw [if_pos (by rfl)]
      go_wp2_with fail
      exact hK.out _ _ ⟨_, rfl, hS, rfl, AllP.same _⟩
    refine RelySteps.cons (RelyStep.mk [34] [0, 1, 2, 3, 4, 5, 6, 7, 8, 9, 10, 11, 12, 13, 14, 15, 16, 17, 18, 19, 20, 21, 22, 23, 24, 25, 26, 27, 28, 30, 31, 34, 37, 39, 40, 41, 42, 43, 44, 45, 46, 47, 48, 49, 50, 51, 52, 53, 54, 55, 56, 57, 58, 59, 60, 61, 62, 63, 64, 65, 66, 67] rfl rfl rfl (fun xv wS hS hV bq hb K hK => ?_)) ?_
    · obtain ⟨h34, _⟩ := hV
      have h34 : xv 34 = _ := h34
      simp only [putsOf, List.foldl_cons, List.foldl_nil, List.getD_cons_zero, List.getD_cons_succ, List.getD_nil, cond_true, cond_false, Act.put, List.setIfInBounds_toArray, List.set_cons_zero, List.set_cons_succ, h34] at hb
      clear h34
      subst hb
      rw [if_pos (by rfl)]
      have HSS := Lib.hid hS
      clear hS
      go_wp2_with fail
      refine (HNM.out _ HSS.out).mono ?_
      rintro e w9 ⟨rfl, rfl⟩
      exact hK.out _ _ ⟨_, rfl, HSS.out, rfl, AllP.same _⟩
    refine RelySteps.cons (RelyStep.mk [35, 34] [0, 1, 2, 3, 4, 5, 6, 7, 8, 9, 10, 11, 12, 13, 14, 15, 16, 17, 18, 19, 20, 21, 22, 23, 24, 25, 26, 27, 28, 30, 31, 34, 38, 39, 40, 41, 42, 43, 44, 45, 46, 47, 48, 49, 50, 51, 52, 53, 54, 55, 56, 57, 58, 59, 60, 61, 62, 63, 64, 65, 66, 67] rfl rfl rfl (fun xv wS hS hV bq hb K hK => ?_)) ?_
    · obtain ⟨h35, h34, _⟩ := hV
      have h35 : xv 35 = _ := h35
      have h34 : xv 34 = _ := h34
      simp only [putsOf, List.foldl_cons, List.foldl_nil, List.getD_cons_zero, List.getD_cons_succ, List.getD_nil, cond_true, cond_false, Act.put, List.setIfInBounds_toArray, List.set_cons_zero, List.set_cons_succ, h35, h34] at hb
      clear h35
      clear h34
      subst hb
      rw [if_pos (by rfl)]
      go_wp2_with fail
      exact hK.out _ _ ⟨_, rfl, hS, rfl, AllP.same _⟩
    refine RelySteps.cons (RelyStep.mk [34, 36] [0, 1, 2, 3, 4, 5, 6, 7, 8, 9, 10, 11, 12, 13, 14, 15, 16, 17, 18, 19, 20, 21, 22, 23, 24, 25, 26, 27, 28, 30, 31, 34, 39, 40, 41, 42, 43, 44, 45, 46, 47, 48, 49, 50, 51, 52, 53, 54, 55, 56, 57, 58, 59, 60, 61, 62, 63, 64, 65, 66, 67] rfl rfl rfl (fun xv wS hS hV bq hb K hK => ?_)) ?_
    · obtain ⟨h34, h36, _⟩ := hV
      have h34 : xv 34 = _ := h34
      have h36 : xv 36 = _ := h36
      simp only [putsOf, List.foldl_cons, List.foldl_nil, List.getD_cons_zero, List.getD_cons_succ, List.getD_nil, cond_true, cond_false, Act.put, List.setIfInBounds_toArray, List.set_cons_zero, List.set_cons_succ, h34, h36] at hb
      clear h34
      clear h36
      subst hb
      rw [if_pos (by rfl)]
      go_wp2_with fail
      exact hK.out _ _ ⟨_, rfl, hS, rfl, AllP.same _⟩
    refine RelySteps.cons (RelyStep.mk [37] [0, 1, 2, 3, 4, 5, 6, 7, 8, 9, 10, 11, 12, 13, 14, 15, 16, 17, 18, 19, 20, 21, 22, 23, 24, 25, 26, 27, 28, 29, 30, 31, 32, 34, 41, 42, 43, 44, 45, 46, 47, 48, 49, 50, 51, 52, 53, 54, 55, 56, 57, 58, 59, 60, 61, 62, 63, 64, 65, 66, 67] rfl rfl rfl (fun xv wS hS hV bq hb K hK => ?_)) ?_
    · obtain ⟨h37, _⟩ := hV
      have h37 : xv 37 = _ := h37
      simp only [putsOf, List.foldl_cons, List.foldl_nil, List.getD_cons_zero, List.getD_cons_succ, List.getD_nil, cond_true, cond_false, Act.put, List.setIfInBounds_toArray, List.set_cons_zero, List.set_cons_succ, h37] at hb
      clear h37
      subst hb
      rw [if_pos (by rfl)]
      go_wp2_with fail
      exact hK.out _ _ ⟨_, rfl, hS, rfl, AllP.same _⟩
    refine RelySteps.cons (RelyStep.mk [38] [0, 1, 2, 3, 4, 5, 6, 7, 8, 9, 10, 11, 12, 13, 14, 15, 16, 17, 18, 19, 20, 21, 22, 23, 24, 25, 26, 27, 28, 29, 30, 31, 32, 33, 34, 35, 38, 42, 43, 44, 45, 46, 47, 48, 49, 50, 51, 52, 53, 54, 55, 56, 57, 58, 59, 60, 61, 62, 63, 64, 65, 66, 67] rfl rfl rfl (fun xv wS hS hV bq hb K hK => ?_)) ?_
    · obtain ⟨h38, _⟩ := hV
      have h38 : xv 38 = _ := h38
      simp only [putsOf, List.foldl_cons, List.foldl_nil, List.getD_cons_zero, List.getD_cons_succ, List.getD_nil, cond_true, cond_false, Act.put, List.setIfInBounds_toArray, List.set_cons_zero, List.set_cons_succ, h38] at hb
      clear h38
      subst hb
      rw [if_pos (by rfl)]
      have HSS := Lib.hid hS
      clear hS
      go_wp2_with fail
      refine (plain_any _ _).mono ?_
      rintro e w9 ⟨rfl, rfl⟩
      exact hK.out _ _ ⟨_, rfl, HSS.out, rfl, AllP.same _⟩
    refine RelySteps.cons (RelyStep.mk [38, 39] [0, 1, 2, 3, 4, 5, 6, 7, 8, 9, 10, 11, 12, 13, 14, 15, 16, 17, 18, 19, 20, 21, 22, 23, 24, 25, 26, 27, 28, 29, 30, 31, 32, 33, 34, 35, 42, 43, 44, 45, 46, 47, 48, 49, 50, 51, 52, 53, 54, 55, 56, 57, 58, 59, 60, 61, 62, 63, 64, 65, 66, 67] rfl rfl rfl (fun xv wS hS hV bq hb K hK => ?_)) ?_
    · obtain ⟨h38, h39, _⟩ := hV
      have h38 : xv 38 = _ := h38
      have h39 : xv 39 = _ := h39
      simp only [putsOf, List.foldl_cons, List.foldl_nil, List.getD_cons_zero, List.getD_cons_succ, List.getD_nil, cond_true, cond_false, Act.put, List.setIfInBounds_toArray, List.set_cons_zero, List.set_cons_succ, h38, h39] at hb
      clear h38
      clear h39
      subst hb
      rw [if_pos (by rfl)]
      go_wp2_with fail
      exact hK.out _ _ ⟨_, rfl, hS, rfl, AllP.same _⟩
    refine RelySteps.cons (RelyStep.mk [40] [0, 1, 2, 3, 4, 5, 6, 7, 8, 9, 10, 11, 12, 13, 14, 15, 16, 17, 18, 19, 20, 21, 22, 23, 24, 25, 26, 27, 28, 29, 30, 31, 32, 33, 34, 35, 36, 45, 46, 47, 48, 49, 50, 51, 52, 53, 54, 55, 56, 57, 58, 59, 60, 61, 62, 63, 64, 65, 66, 67] rfl rfl rfl (fun xv wS hS hV bq hb K hK => ?_)) ?_
    · obtain ⟨h40, _⟩ := hV
      have h40 : xv 40 = _ := h40
      simp only [putsOf, List.foldl_cons, List.foldl_nil, List.getD_cons_zero, List.getD_cons_succ, List.getD_nil, cond_true, cond_false, Act.put, List.setIfInBounds_toArray, List.set_cons_zero, List.set_cons_succ, h40] at hb
      clear h40
      subst hb
      rw [if_pos (by rfl)]
      go_wp2_with fail
      exact hK.out _ _ ⟨_, rfl, hS, rfl, AllP.same _⟩
    refine RelySteps.cons (RelyStep.mk [41] [0, 1, 2, 3, 4, 5, 6, 7, 8, 9, 10, 11, 12, 13, 14, 15, 16, 17, 18, 19, 20, 21, 22, 23, 24, 25, 26, 27, 28, 29, 30, 31, 32, 33, 34, 35, 36, 37, 41, 44, 46, 47, 48, 49, 50, 51, 52, 53, 54, 55, 56, 57, 58, 59, 60, 61, 62, 63, 64, 65, 66, 67] rfl rfl rfl (fun xv wS hS hV bq hb K hK => ?_)) ?_
    · obtain ⟨h41, _⟩ := hV
      have h41 : xv 41 = _ := h41
      simp only [putsOf, List.foldl_cons, List.foldl_nil, List.getD_cons_zero, List.getD_cons_succ, List.getD_nil, cond_true, cond_false, Act.put, List.setIfInBounds_toArray, List.set_cons_zero, List.set_cons_succ, h41] at hb
      clear h41
      subst hb
      rw [if_pos (by rfl)]
      have HSS := Lib.hid hS
      clear hS
      go_wp2_with fail
      refine (plain_any _ _).mono ?_
      rintro e w9 ⟨rfl, rfl⟩
      exact hK.out _ _ ⟨_, rfl, HSS.out, rfl, AllP.same _⟩
    refine RelySteps.cons (RelyStep.mk [42, 41] [0, 1, 2, 3, 4, 5, 6, 7, 8, 9, 10, 11, 12, 13, 14, 15, 16, 17, 18, 19, 20, 21, 22, 23, 24, 25, 26, 27, 28, 29, 30, 31, 32, 33, 34, 35, 36, 37, 41, 45, 46, 47, 48, 49, 50, 51, 52, 53, 54, 55, 56, 57, 58, 59, 60, 61, 62, 63, 64, 65, 66, 67] rfl rfl rfl (fun xv wS hS hV bq hb K hK => ?_)) ?_
    · obtain ⟨h42, h41, _⟩ := hV
      have h42 : xv 42 = _ := h42
      have h41 : xv 41 = _ := h41
      simp only [putsOf, List.foldl_cons, List.foldl_nil, List.getD_cons_zero, List.getD_cons_succ, List.getD_nil, cond_true, cond_false, Act.put, List.setIfInBounds_toArray, List.set_cons_zero, List.set_cons_succ, h42, h41] at hb
      clear h42
      clear h41
      subst hb
      rw [if_pos (by rfl)]
      go_wp2_with fail
      exact hK.out _ _ ⟨_, rfl, hS, rfl, AllP.same _⟩
    refine RelySteps.cons (RelyStep.mk [41, 43] [0, 1, 2, 3, 4, 5, 6, 7, 8, 9, 10, 11, 12, 13, 14, 15, 16, 17, 18, 19, 20, 21, 22, 23, 24, 25, 26, 27, 28, 29, 30, 31, 32, 33, 34, 35, 36, 37, 41, 46, 47, 48, 49, 50, 51, 52, 53, 54, 55, 56, 57, 58, 59, 60, 61, 62, 63, 64, 65, 66, 67] rfl rfl rfl (fun xv wS hS hV bq hb K hK => ?_)) ?_
    · obtain ⟨h41, h43, _⟩ := hV
      have h41 : xv 41 = _ := h41
      have h43 : xv 43 = _ := h43
      simp only [putsOf, List.foldl_cons, List.foldl_nil, List.getD_cons_zero, List.getD_cons_succ, List.getD_nil, cond_true, cond_false, Act.put, List.setIfInBounds_toArray, List.set_cons_zero, List.set_cons_succ, h41, h43] at hb
      clear h41
      clear h43
      subst hb
      rw [if_pos (by rfl)]
      go_wp2_with fail
      exact hK.out _ _ ⟨_, rfl, hS, rfl, AllP.same _⟩
    refine RelySteps.cons (RelyStep.mk [44] [0, 1, 2, 3, 4, 5, 6, 7, 8, 9, 10, 11, 12, 13, 14, 15, 16, 17, 18, 19, 20, 21, 22, 23, 24, 25, 26, 27, 28, 29, 30, 31, 32, 33, 34, 35, 36, 37, 38, 39, 41, 48, 49, 50, 51, 52, 53, 54, 55, 56, 57, 58, 59, 60, 61, 62, 63, 64, 65, 66, 67] rfl rfl rfl (fun xv wS hS hV bq hb K hK => ?_)) ?_
    · obtain ⟨h44, _⟩ := hV
      have h44 : xv 44 = _ := h44
      simp only [putsOf, List.foldl_cons, List.foldl_nil, List.getD_cons_zero, List.getD_cons_succ, List.getD_nil, cond_true, cond_false, Act.put, List.setIfInBounds_toArray, List.set_cons_zero, List.set_cons_succ, h44] at hb
      clear h44
      subst hb
      rw [if_pos (by rfl)]
      go_wp2_with fail
      exact hK.out _ _ ⟨_, rfl, hS, rfl, AllP.same _⟩
    refine RelySteps.cons (RelyStep.mk [45] [0, 1, 2, 3, 4, 5, 6, 7, 8, 9, 10, 11, 12, 13, 14, 15, 16, 17, 18, 19, 20, 21, 22, 23, 24, 25, 26, 27, 28, 29, 30, 31, 32, 33, 34, 35, 36, 37, 38, 39, 40, 41, 42, 45, 49, 50, 51, 52, 53, 54, 55, 56, 57, 58, 59, 60, 61, 62, 63, 64, 65, 66, 67] rfl rfl rfl (fun xv wS hS hV bq hb K hK => ?_)) ?_
    · obtain ⟨h45, _⟩ := hV
      have h45 : xv 45 = _ := h45
      simp only [putsOf, List.foldl_cons, List.foldl_nil, List.getD_cons_zero, List.getD_cons_succ, List.getD_nil, cond_true, cond_false, Act.put, List.setIfInBounds_toArray, List.set_cons_zero, List.set_cons_succ, h45] at hb
      clear h45
      subst hb
      rw [if_pos (by rfl)]
      have HSS := Lib.hid hS
      clear hS
      go_wp2_with fail
      refine (seen_any _ _).mono ?_
      rintro e w9 ⟨rfl, rfl⟩
      exact hK.out _ _ ⟨_, rfl, HSS.out, rfl, AllP.same _⟩
    refine RelySteps.cons (RelyStep.mk [45, 46] [0, 1, 2, 3, 4, 5, 6, 7, 8, 9, 10, 11, 12, 13, 14, 15, 16, 17, 18, 19, 20, 21, 22, 23, 24, 25, 26, 27, 28, 29, 30, 31, 32, 33, 34, 35, 36, 37, 38, 39, 40, 41, 42, 49, 50, 51, 52, 53, 54, 55, 56, 57, 58, 59, 60, 61, 62, 63, 64, 65, 66, 67] rfl rfl rfl (fun xv wS hS hV bq hb K hK => ?_)) ?_
    · obtain ⟨h45, h46, _⟩ := hV
      have h45 : xv 45 = _ := h45
      have h46 : xv 46 = _ := h46
      simp only [putsOf, List.foldl_cons, List.foldl_nil, List.getD_cons_zero, List.getD_cons_succ, List.getD_nil, cond_true, cond_false, Act.put, List.setIfInBounds_toArray, List.set_cons_zero, List.set_cons_succ, h45, h46] at hb
      clear h45
      clear h46
      subst hb
      rw [if_pos (by rfl)]
      go_wp2_with fail
      exact hK.out _ _ ⟨_, rfl, hS, rfl, AllP.same _⟩
    refine RelySteps.cons (RelyStep.mk [47] [0, 1, 2, 3, 4, 5, 6, 7, 8, 9, 10, 11, 12, 13, 14, 15, 16, 17, 18, 19, 20, 21, 22, 23, 24, 25, 26, 27, 28, 29, 30, 31, 32, 33, 34, 35, 36, 37, 38, 39, 40, 41, 42, 43, 52, 53, 54, 55, 56, 57, 58, 59, 60, 61, 62, 63, 64, 65, 66, 67] rfl rfl rfl (fun xv wS hS hV bq hb K hK => ?_)) ?_
    · obtain ⟨h47, _⟩ := hV
      have h47 : xv 47 = _ := h47
      simp only [putsOf, List.foldl_cons, List.foldl_nil, List.getD_cons_zero, List.getD_cons_succ, List.getD_nil, cond_true, cond_false, Act.put, List.setIfInBounds_toArray, List.set_cons_zero, List.set_cons_succ, h47] at hb
      clear h47
      subst hb
      rw [if_pos (by rfl)]
      go_wp2_with fail
      exact hK.out _ _ ⟨_, rfl, hS, rfl, AllP.same _⟩
    refine RelySteps.cons (RelyStep.mk [48] [0, 1, 2, 3, 4, 5, 6, 7, 8, 9, 10, 11, 12, 13, 14, 15, 16, 17, 18, 19, 20, 21, 22, 23, 24, 25, 26, 27, 28, 29, 30, 31, 32, 33, 34, 35, 36, 37, 38, 39, 40, 41, 42, 43, 44, 48, 51, 53, 54, 55, 56, 57, 58, 59, 60, 61, 62, 63, 64, 65, 66, 67] rfl rfl rfl (fun xv wS hS hV bq hb K hK => ?_)) ?_
    · obtain ⟨h48, _⟩ := hV
      have h48 : xv 48 = _ := h48
      simp only [putsOf, List.foldl_cons, List.foldl_nil, List.getD_cons_zero, List.getD_cons_succ, List.getD_nil, cond_true, cond_false, Act.put, List.setIfInBounds_toArray, List.set_cons_zero, List.set_cons_succ, h48] at hb
      clear h48
      subst hb
      rw [if_pos (by rfl)]
      have HSS := Lib.hid hS
      clear hS
      go_wp2_with fail
      refine (seen_any _ _).mono ?_
      rintro e w9 ⟨rfl, rfl⟩
      exact hK.out _ _ ⟨_, rfl, HSS.out, rfl, AllP.same _⟩
    refine RelySteps.cons (RelyStep.mk [49, 48] [0, 1, 2, 3, 4, 5, 6, 7, 8, 9, 10, 11, 12, 13, 14, 15, 16, 17, 18, 19, 20, 21, 22, 23, 24, 25, 26, 27, 28, 29, 30, 31, 32, 33, 34, 35, 36, 37, 38, 39, 40, 41, 42, 43, 44, 48, 52, 53, 54, 55, 56, 57, 58, 59, 60, 61, 62, 63, 64, 65, 66, 67] rfl rfl rfl (fun xv wS hS hV bq hb K hK => ?_)) ?_
    · obtain ⟨h49, h48, _⟩ := hV
      have h49 : xv 49 = _ := h49
      have h48 : xv 48 = _ := h48
      simp only [putsOf, List.foldl_cons, List.foldl_nil, List.getD_cons_zero, List.getD_cons_succ, List.getD_nil, cond_true, cond_false, Act.put, List.setIfInBounds_toArray, List.set_cons_zero, List.set_cons_succ, h49, h48] at hb
      clear h49
      clear h48
      subst hb
      rw [if_pos (by rfl)]
      go_wp2_with fail
      exact hK.out _ _ ⟨_, rfl, hS, rfl, AllP.same _⟩
    refine RelySteps.cons (RelyStep.mk [48, 50] [0, 1, 2, 3, 4, 5, 6, 7, 8, 9, 10, 11, 12, 13, 14, 15, 16, 17, 18, 19, 20, 21, 22, 23, 24, 25, 26, 27, 28, 29, 30, 31, 32, 33, 34, 35, 36, 37, 38, 39, 40, 41, 42, 43, 44, 48, 53, 54, 55, 56, 57, 58, 59, 60, 61, 62, 63, 64, 65, 66, 67] rfl rfl rfl (fun xv wS hS hV bq hb K hK => ?_)) ?_
    · obtain ⟨h48, h50, _⟩ := hV
      have h48 : xv 48 = _ := h48
      have h50 : xv 50 = _ := h50
      simp only [putsOf, List.foldl_cons, List.foldl_nil, List.getD_cons_zero, List.getD_cons_succ, List.getD_nil, cond_true, cond_false, Act.put, List.setIfInBounds_toArray, List.set_cons_zero, List.set_cons_succ, h48, h50] at hb
      clear h48
      clear h50
      subst hb
      rw [if_pos (by rfl)]
      go_wp2_with fail
      exact hK.out _ _ ⟨_, rfl, hS, rfl, AllP.same _⟩
    refine RelySteps.cons (RelyStep.mk [51] [0, 1, 2, 3, 4, 5, 6, 7, 8, 9, 10, 11, 12, 13, 14, 15, 16, 17, 18, 19, 20, 21, 22, 23, 24, 25, 26, 27, 28, 29, 30, 31, 32, 33, 34, 35, 36, 37, 38, 39, 40, 41, 42, 43, 44, 45, 46, 48, 56, 57, 58, 59, 60, 61, 62, 63, 64, 65, 66, 67] rfl rfl rfl (fun xv wS hS hV bq hb K hK => ?_)) ?_
    · obtain ⟨h51, _⟩ := hV
      have h51 : xv 51 = _ := h51
      simp only [putsOf, List.foldl_cons, List.foldl_nil, List.getD_cons_zero, List.getD_cons_succ, List.getD_nil, cond_true, cond_false, Act.put, List.setIfInBounds_toArray, List.set_cons_zero, List.set_cons_succ, h51] at hb
      clear h51
      subst hb
      rw [if_pos (by rfl)]
      go_wp2_with fail
      exact hK.out _ _ ⟨_, rfl, hS, rfl, AllP.same _⟩
    refine RelySteps.cons (RelyStep.mk [52] [0, 1, 2, 3, 4, 5, 6, 7, 8, 9, 10, 11, 12, 13, 14, 15, 16, 17, 18, 19, 20, 21, 22, 23, 24, 25, 26, 27, 28, 29, 30, 31, 32, 33, 34, 35, 36, 37, 38, 39, 40, 41, 42, 43, 44, 45, 46, 47, 48, 49, 52, 55, 56, 57, 58, 59, 60, 61, 62, 63, 64, 65, 66, 67] rfl rfl rfl (fun xv wS hS hV bq hb K hK => ?_)) ?_
    · obtain ⟨h52, _⟩ := hV
      have h52 : xv 52 = _ := h52
      simp only [putsOf, List.foldl_cons, List.foldl_nil, List.getD_cons_zero, List.getD_cons_succ, List.getD_nil, cond_true, cond_false, Act.put, List.setIfInBounds_toArray, List.set_cons_zero, List.set_cons_succ, h52] at hb
      clear h52
      subst hb
      rw [if_pos (by rfl)]
      go_wp2_with fail
      exact hK.out _ _ ⟨_, rfl, hS, rfl, AllP.same _⟩
    refine RelySteps.cons (RelyStep.mk [53, 52] [0, 1, 2, 3, 4, 5, 6, 7, 8, 9, 10, 11, 12, 13, 14, 15, 16, 17, 18, 19, 20, 21, 22, 23, 24, 25, 26, 27, 28, 29, 30, 31, 32, 33, 34, 35, 36, 37, 38, 39, 40, 41, 42, 43, 44, 45, 46, 47, 48, 49, 52, 57, 58, 59, 60, 61, 62, 63, 64, 65, 66, 67] rfl rfl rfl (fun xv wS hS hV bq hb K hK => ?_)) ?_
    · obtain ⟨h53, h52, _⟩ := hV
      have h53 : xv 53 = _ := h53
      have h52 : xv 52 = _ := h52
      simp only [putsOf, List.foldl_cons, List.foldl_nil, List.getD_cons_zero, List.getD_cons_succ, List.getD_nil, cond_true, cond_false, Act.put, List.setIfInBounds_toArray, List.set_cons_zero, List.set_cons_succ, h53, h52] at hb
      clear h53
      clear h52
      subst hb
      rw [if_pos (by rfl)]
      have HSS := Lib.hid hS
      clear hS
      go_wp2_with fail
      refine (HC256.out _).mono ?_
      rintro e w9 ⟨rfl, hb⟩
      exact hK.out _ _ ⟨_, rfl, HSS.out.trans (hb.mono HSS.out.size), rfl, AllP.of _ (fun j _ u h => awV_below hb h)⟩
    refine RelySteps.cons (RelyStep.mk [52, 54] [0, 1, 2, 3, 4, 5, 6, 7, 8, 9, 10, 11, 12, 13, 14, 15, 16, 17, 18, 19, 20, 21, 22, 23, 24, 25, 26, 27, 28, 29, 30, 31, 32, 33, 34, 35, 36, 37, 38, 39, 40, 41, 42, 43, 44, 45, 46, 47, 48, 49, 52, 57, 58, 59, 60, 61, 62, 63, 64, 65, 66, 67] rfl rfl rfl (fun xv wS hS hV bq hb K hK => ?_)) ?_
    · obtain ⟨h52, h54, _⟩ := hV
      have h52 : xv 52 = _ := h52
      have h54 : xv 54 = _ := h54
      simp only [putsOf, List.foldl_cons, List.foldl_nil, List.getD_cons_zero, List.getD_cons_succ, List.getD_nil, cond_true, cond_false, Act.put, List.setIfInBounds_toArray, List.set_cons_zero, List.set_cons_succ, h52, h54] at hb
      clear h52
      clear h54
      subst hb
      rw [if_pos (by rfl)]
      go_wp2_with fail
      exact hK.out _ _ ⟨_, rfl, hS, rfl, AllP.same _⟩
    refine RelySteps.cons (RelyStep.mk [55] [0, 1, 2, 3, 4, 5, 6, 7, 8, 9, 10, 11, 12, 13, 14, 15, 16, 17, 18, 19, 20, 21, 22, 23, 24, 25, 26, 27, 28, 29, 30, 31, 32, 33, 34, 35, 36, 37, 38, 39, 40, 41, 42, 43, 44, 45, 46, 47, 48, 49, 50, 52, 61, 62, 63, 64, 65, 66, 67] rfl rfl rfl (fun xv wS hS hV bq hb K hK => ?_)) ?_
    · obtain ⟨h55, _⟩ := hV
      have h55 : xv 55 = _ := h55
      simp only [putsOf, List.foldl_cons, List.foldl_nil, List.getD_cons_zero, List.getD_cons_succ, List.getD_nil, cond_true, cond_false, Act.put, List.setIfInBounds_toArray, List.set_cons_zero, List.set_cons_succ, h55] at hb
      clear h55
      subst hb
      rw [if_pos (by rfl)]
      go_wp2_with fail
      exact hK.out _ _ ⟨_, rfl, hS, rfl, AllP.same _⟩
    refine RelySteps.cons (RelyStep.mk [56] [0, 1, 2, 3, 4, 5, 6, 7, 8, 9, 10, 11, 12, 13, 14, 15, 16, 17, 18, 19, 20, 21, 22, 23, 24, 25, 26, 27, 28, 29, 30, 31, 32, 33, 34, 35, 36, 37, 38, 39, 40, 41, 42, 43, 44, 45, 46, 47, 48, 49, 50, 51, 52, 56, 59, 60, 61, 62, 63, 64, 65, 66, 67] rfl rfl rfl (fun xv wS hS hV bq hb K hK => ?_)) ?_
    · obtain ⟨h56, _⟩ := hV
      have h56 : xv 56 = _ := h56
      simp only [putsOf, List.foldl_cons, List.foldl_nil, List.getD_cons_zero, List.getD_cons_succ, List.getD_nil, cond_true, cond_false, Act.put, List.setIfInBounds_toArray, List.set_cons_zero, List.set_cons_succ, h56] at hb
      clear h56
      subst hb
      rw [if_pos (by rfl)]
      go_wp2_with fail
      exact hK.out _ _ ⟨_, rfl, hS, rfl, AllP.same _⟩
    refine RelySteps.cons (RelyStep.mk [57, 56] [0, 1, 2, 3, 4, 5, 6, 7, 8, 9, 10, 11, 12, 13, 14, 15, 16, 17, 18, 19, 20, 21, 22, 23, 24, 25, 26, 27, 28, 29, 30, 31, 32, 33, 34, 35, 36, 37, 38, 39, 40, 41, 42, 43, 44, 45, 46, 47, 48, 49, 50, 51, 52, 56, 60, 62, 63, 64, 65, 66, 67] rfl rfl rfl (fun xv wS hS hV bq hb K hK => ?_)) ?_
    · obtain ⟨h57, h56, _⟩ := hV
      have h57 : xv 57 = _ := h57
      have h56 : xv 56 = _ := h56
      simp only [putsOf, List.foldl_cons, List.foldl_nil, List.getD_cons_zero, List.getD_cons_succ, List.getD_nil, cond_true, cond_false, Act.put, List.setIfInBounds_toArray, List.set_cons_zero, List.set_cons_succ, h57, h56] at hb
      clear h57
      clear h56
      subst hb
      rw [if_pos (by rfl)]
      have HSS := Lib.hid hS
      clear hS
      go_wp2_with fail
      refine (HC257.out _).mono ?_
      rintro e w9 ⟨rfl, hb⟩
      exact hK.out _ _ ⟨_, rfl, HSS.out.trans (hb.mono HSS.out.size), rfl, AllP.of _ (fun j _ u h => awV_below hb h)⟩
    refine RelySteps.cons (RelyStep.mk [58, 56] [0, 1, 2, 3, 4, 5, 6, 7, 8, 9, 10, 11, 12, 13, 14, 15, 16, 17, 18, 19, 20, 21, 22, 23, 24, 25, 26, 27, 28, 29, 30, 31, 32, 33, 34, 35, 36, 37, 38, 39, 40, 41, 42, 43, 44, 45, 46, 47, 48, 49, 50, 51, 52, 56, 61, 62, 63, 64, 65, 66, 67] rfl rfl rfl (fun xv wS hS hV bq hb K hK => ?_)) ?_
    · obtain ⟨h58, h56, _⟩ := hV
      have h58 : xv 58 = _ := h58
      have h56 : xv 56 = _ := h56
      simp only [putsOf, List.foldl_cons, List.foldl_nil, List.getD_cons_zero, List.getD_cons_succ, List.getD_nil, cond_true, cond_false, Act.put, List.setIfInBounds_toArray, List.set_cons_zero, List.set_cons_succ, h58, h56] at hb
      clear h58
      clear h56
      subst hb
      rw [if_pos (by rfl)]
      go_wp2_with fail
      exact hK.out _ _ ⟨_, rfl, hS, rfl, AllP.same _⟩
    refine RelySteps.cons (RelyStep.mk [56, 59] [0, 1, 2, 3, 4, 5, 6, 7, 8, 9, 10, 11, 12, 13, 14, 15, 16, 17, 18, 19, 20, 21, 22, 23, 24, 25, 26, 27, 28, 29, 30, 31, 32, 33, 34, 35, 36, 37, 38, 39, 40, 41, 42, 43, 44, 45, 46, 47, 48, 49, 50, 51, 52, 56, 62, 63, 64, 65, 66, 67] rfl rfl rfl (fun xv wS hS hV bq hb K hK => ?_)) ?_
    · obtain ⟨h56, h59, _⟩ := hV
      have h56 : xv 56 = _ := h56
      have h59 : xv 59 = _ := h59
      simp only [putsOf, List.foldl_cons, List.foldl_nil, List.getD_cons_zero, List.getD_cons_succ, List.getD_nil, cond_true, cond_false, Act.put, List.setIfInBounds_toArray, List.set_cons_zero, List.set_cons_succ, h56, h59] at hb
      clear h56
      clear h59
      subst hb
      rw [if_pos (by rfl)]
      go_wp2_with fail
      exact hK.out _ _ ⟨_, rfl, hS, rfl, AllP.same _⟩
    refine RelySteps.cons (RelyStep.mk [60] [0, 1, 2, 3, 4, 5, 6, 7, 8, 9, 10, 11, 12, 13, 14, 15, 16, 17, 18, 19, 20, 21, 22, 23, 24, 25, 26, 27, 28, 29, 30, 31, 32, 33, 34, 35, 36, 37, 38, 39, 40, 41, 42, 43, 44, 45, 46, 47, 48, 49, 50, 51, 52, 53, 54, 56] rfl rfl rfl (fun xv wS hS hV bq hb K hK => ?_)) ?_
    · obtain ⟨h60, _⟩ := hV
      have h60 : xv 60 = _ := h60
      simp only [putsOf, List.foldl_cons, List.foldl_nil, List.getD_cons_zero, List.getD_cons_succ, List.getD_nil, cond_true, cond_false, Act.put, List.setIfInBounds_toArray, List.set_cons_zero, List.set_cons_succ, h60] at hb
      clear h60
      subst hb
      rw [if_pos (by rfl)]
      go_wp2_with fail
      exact hK.out _ _ ⟨_, rfl, hS, rfl, AllP.same _⟩
    refine RelySteps.cons (RelyStep.mk [61] [0, 1, 2, 3, 4, 5, 6, 7, 8, 9, 10, 11, 12, 13, 14, 15, 16, 17, 18, 19, 20, 21, 22, 23, 24, 25, 26, 27, 28, 29, 30, 31, 32, 33, 34, 35, 36, 37, 38, 39, 40, 41, 42, 43, 44, 45, 46, 47, 48, 49, 50, 51, 52, 53, 54, 55, 56, 58, 61, 64, 65, 66, 67] rfl rfl rfl (fun xv wS hS hV bq hb K hK => ?_)) ?_
    · obtain ⟨h61, _⟩ := hV
      have h61 : xv 61 = _ := h61
      simp only [putsOf, List.foldl_cons, List.foldl_nil, List.getD_cons_zero, List.getD_cons_succ, List.getD_nil, cond_true, cond_false, Act.put, List.setIfInBounds_toArray, List.set_cons_zero, List.set_cons_succ, h61] at hb
      clear h61
      subst hb
      rw [if_pos (by rfl)]
      have HSS := Lib.hid hS
      clear hS
      go_wp2_with fail
      refine (halts_any _).mono ?_
      rintro e w9 ⟨A, c, B, d, rfl, hp, hb⟩
      exact hK.out _ _ ⟨_, rfl, HSS.out.trans (hb.mono HSS.out.size), ⟨A, c, B, d, rfl, hp⟩, AllP.of _ (fun j _ u h => awV_below hb h)⟩
    refine RelySteps.cons (RelyStep.mk [62, 61] [0, 1, 2, 3, 4, 5, 6, 7, 8, 9, 10, 11, 12, 13, 14, 15, 16, 17, 18, 19, 20, 21, 22, 23, 24, 25, 26, 27, 28, 29, 30, 31, 32, 33, 34, 35, 36, 37, 38, 39, 40, 41, 42, 43, 44, 45, 46, 47, 48, 49, 50, 51, 52, 53, 54, 55, 56, 58, 61, 65, 67] rfl rfl rfl (fun xv wS hS hV bq hb K hK => ?_)) ?_
    · obtain ⟨h62, h61, _⟩ := hV
      have h61 : xv 61 = _ := h61
      simp only [putsOf, List.foldl_cons, List.foldl_nil, List.getD_cons_zero, List.getD_cons_succ, List.getD_nil, cond_true, cond_false, Act.put, List.setIfInBounds_toArray, List.set_cons_zero, List.set_cons_succ, h61] at hb
      generalize xv 62 = y62 at *
      clear h61
      subst hb
      rw [if_pos (by rfl)]
      have HSS := Lib.hid hS
      obtain ⟨A, c, B, d, rfl, hp⟩ := h62
      clear hS
      go_wp2_with fail
      refine (HDG.out _ _ _ _ _ hp).mono ?_
      rintro e w9 ⟨rfl, hb⟩
      exact hK.out _ _ ⟨_, rfl, HSS.out.trans (hb.mono HSS.out.size), rfl, AllP.of _ (fun j _ u h => awV_below hb h)⟩
    refine RelySteps.cons (RelyStep.mk [61] [0, 1, 2, 3, 4, 5, 6, 7, 8, 9, 10, 11, 12, 13, 14, 15, 16, 17, 18, 19, 20, 21, 22, 23, 24, 25, 26, 27, 28, 29, 30, 31, 32, 33, 34, 35, 36, 37, 38, 39, 40, 41, 42, 43, 44, 45, 46, 47, 48, 49, 50, 51, 52, 53, 54, 55, 56, 58, 61, 63, 66, 67] rfl rfl rfl (fun xv wS hS hV bq hb K hK => ?_)) ?_
    · obtain ⟨h61, _⟩ := hV
      have h61 : xv 61 = _ := h61
      simp only [putsOf, List.foldl_cons, List.foldl_nil, List.getD_cons_zero, List.getD_cons_succ, List.getD_nil, cond_true, cond_false, Act.put, List.setIfInBounds_toArray, List.set_cons_zero, List.set_cons_succ, h61] at hb
      clear h61
      subst hb
      rw [if_pos (by rfl)]
      have HSS := Lib.hid hS
      clear hS
      go_wp2_with fail
      refine (halts_any _).mono ?_
      rintro e w9 ⟨A, c, B, d, rfl, hp, hb⟩
      exact hK.out _ _ ⟨_, rfl, HSS.out.trans (hb.mono HSS.out.size), ⟨A, c, B, d, rfl, hp⟩, AllP.of _ (fun j _ u h => awV_below hb h)⟩
    refine RelySteps.cons (RelyStep.mk [64, 61] [0, 1, 2, 3, 4, 5, 6, 7, 8, 9, 10, 11, 12, 13, 14, 15, 16, 17, 18, 19, 20, 21, 22, 23, 24, 25, 26, 27, 28, 29, 30, 31, 32, 33, 34, 35, 36, 37, 38, 39, 40, 41, 42, 43, 44, 45, 46, 47, 48, 49, 50, 51, 52, 53, 54, 55, 56, 58, 61, 63, 67] rfl rfl rfl (fun xv wS hS hV bq hb K hK => ?_)) ?_
    · obtain ⟨h64, h61, _⟩ := hV
      have h61 : xv 61 = _ := h61
      simp only [putsOf, List.foldl_cons, List.foldl_nil, List.getD_cons_zero, List.getD_cons_succ, List.getD_nil, cond_true, cond_false, Act.put, List.setIfInBounds_toArray, List.set_cons_zero, List.set_cons_succ, h61] at hb
      generalize xv 64 = y64 at *
      clear h61
      subst hb
      rw [if_pos (by rfl)]
      have HSS := Lib.hid hS
      obtain ⟨A, c, B, d, rfl, hp⟩ := h64
      clear hS
      go_wp2_with fail
      refine (HDR.out _ _ _ _ _ hp).mono ?_
      rintro e w9 ⟨rfl, hb⟩
      exact hK.out _ _ ⟨_, rfl, HSS.out.trans (hb.mono HSS.out.size), rfl, AllP.of _ (fun j _ u h => awV_below hb h)⟩
    refine RelySteps.cons (RelyStep.mk [63, 65, 61] [0, 1, 2, 3, 4, 5, 6, 7, 8, 9, 10, 11, 12, 13, 14, 15, 16, 17, 18, 19, 20, 21, 22, 23, 24, 25, 26, 27, 28, 29, 30, 31, 32, 33, 34, 35, 36, 37, 38, 39, 40, 41, 42, 43, 44, 45, 46, 47, 48, 49, 50, 51, 52, 53, 54, 55, 56, 58, 61] rfl rfl rfl (fun xv wS hS hV bq hb K hK => ?_)) ?_
    · obtain ⟨h63, h65, h61, _⟩ := hV
      have h63 : xv 63 = _ := h63
      have h65 : xv 65 = _ := h65
      have h61 : xv 61 = _ := h61
      simp only [putsOf, List.foldl_cons, List.foldl_nil, List.getD_cons_zero, List.getD_cons_succ, List.getD_nil, cond_true, cond_false, Act.put, List.setIfInBounds_toArray, List.set_cons_zero, List.set_cons_succ, h63, h65, h61] at hb
      clear h63
      clear h65
      clear h61
      subst hb
      rw [if_pos (by rfl)]
      go_wp2_with fail
      exact hK.out _ _ ⟨_, rfl, hS, rfl, AllP.same _⟩
    refine RelySteps.cons (RelyStep.mk [61, 66] [0, 1, 2, 3, 4, 5, 6, 7, 8, 9, 10, 11, 12, 13, 14, 15, 16, 17, 18, 19, 20, 21, 22, 23, 24, 25, 26, 27, 28, 29, 30, 31, 32, 33, 34, 35, 36, 37, 38, 39, 40, 41, 42, 43, 44, 45, 46, 47, 48, 49, 50, 51, 52, 53, 54, 55, 56, 58, 61] rfl rfl rfl (fun xv wS hS hV bq hb K hK => ?_)) ?_
    · obtain ⟨h61, h66, _⟩ := hV
      have h61 : xv 61 = _ := h61
      have h66 : xv 66 = _ := h66
      simp only [putsOf, List.foldl_cons, List.foldl_nil, List.getD_cons_zero, List.getD_cons_succ, List.getD_nil, cond_true, cond_false, Act.put, List.setIfInBounds_toArray, List.set_cons_zero, List.set_cons_succ, h61, h66] at hb
      clear h61
      clear h66
      subst hb
      rw [if_pos (by rfl)]
      go_wp2_with fail
      exact hK.out _ _ ⟨_, rfl, hS, rfl, AllP.same _⟩
    refine RelySteps.cons (RelyStep.mk [67] [] rfl rfl rfl (fun xv wS hS hV bq hb K hK => ?_)) ?_
    · obtain ⟨h67, _⟩ := hV
      have h67 : xv 67 = _ := h67
      simp only [putsOf, List.foldl_cons, List.foldl_nil, List.getD_cons_zero, List.getD_cons_succ, List.getD_nil, cond_true, cond_false, Act.put, List.setIfInBounds_toArray, List.set_cons_zero, List.set_cons_succ, h67] at hb
      clear h67
      subst hb
      rw [if_pos (by rfl)]
      go_wp2_with fail
      exact hK.out _ _ ⟨_, rfl, hS, rfl, AllP.same _⟩
    exact RelySteps.nil
  case rE =>
    intro xv wE hS hV
    have h68 := hV 68 (by decide) (by decide)
    clear hV
    simp only [putsOf, List.foldl_cons, List.foldl_nil, List.getD_cons_zero, List.getD_cons_succ, List.getD_nil, cond_true, cond_false, Act.put, List.setIfInBounds_toArray, List.set_cons_zero, List.set_cons_succ]
    have h68 : xv 68 = _ := h68
    rw [h68]; clear h68
    generalize xv 0 = y0 at *
    generalize xv 1 = y1 at *
    generalize xv 2 = y2 at *
    generalize xv 3 = y3 at *
    generalize xv 4 = y4 at *
    generalize xv 5 = y5 at *
    generalize xv 6 = y6 at *
    generalize xv 7 = y7 at *
    generalize xv 8 = y8 at *
    generalize xv 9 = y9 at *
    generalize xv 10 = y10 at *
    generalize xv 11 = y11 at *
    generalize xv 12 = y12 at *
    generalize xv 13 = y13 at *
    generalize xv 14 = y14 at *
    generalize xv 15 = y15 at *
    generalize xv 16 = y16 at *
    generalize xv 17 = y17 at *
    generalize xv 18 = y18 at *
    generalize xv 19 = y19 at *
    generalize xv 20 = y20 at *
    generalize xv 21 = y21 at *
    generalize xv 22 = y22 at *
    generalize xv 23 = y23 at *
    generalize xv 24 = y24 at *
    generalize xv 25 = y25 at *
    generalize xv 26 = y26 at *
    generalize xv 27 = y27 at *
    generalize xv 28 = y28 at *
    generalize xv 29 = y29 at *
    generalize xv 30 = y30 at *
    generalize xv 31 = y31 at *
    generalize xv 32 = y32 at *
    generalize xv 33 = y33 at *
    generalize xv 34 = y34 at *
    generalize xv 35 = y35 at *
    generalize xv 36 = y36 at *
    generalize xv 37 = y37 at *
    generalize xv 38 = y38 at *
    generalize xv 39 = y39 at *
    generalize xv 40 = y40 at *
    generalize xv 41 = y41 at *
    generalize xv 42 = y42 at *
    generalize xv 43 = y43 at *
    generalize xv 44 = y44 at *
    generalize xv 45 = y45 at *
    generalize xv 46 = y46 at *
    generalize xv 47 = y47 at *
    generalize xv 48 = y48 at *
    generalize xv 49 = y49 at *
    generalize xv 50 = y50 at *
    generalize xv 51 = y51 at *
    generalize xv 52 = y52 at *
    generalize xv 53 = y53 at *
    generalize xv 54 = y54 at *
    generalize xv 55 = y55 at *
    generalize xv 56 = y56 at *
    generalize xv 57 = y57 at *
    generalize xv 58 = y58 at *
    generalize xv 59 = y59 at *
    generalize xv 60 = y60 at *
    generalize xv 61 = y61 at *
    generalize xv 62 = y62 at *
    generalize xv 63 = y63 at *
    generalize xv 64 = y64 at *
    generalize xv 65 = y65 at *
    generalize xv 66 = y66 at *
    generalize xv 67 = y67 at *
    have HS9 := Lib.hid hS
    clear hS
    go_wp2
    go_ret
    exact ⟨rfl, HB.out.trans (HS9.out.mono HB.out.size)⟩
end Go.Proofs.YtebgcehcnenjiaaDoor
