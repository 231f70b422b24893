/-
  The document's Next and Reach (layer 11).
-/
import Derived.Test.YteecfffgigaomaaEnds
namespace Go.Proofs.Yteecfffgigaomaa
open Go.RowKit
set_option linter.unusedVariables false
set_option linter.unusedSimpArgs false
def pairOf : List Nat → Int × Int
  | [] => (-1, -1)
  | [a] => ((a : Int), -1)
  | a :: b :: _ => ((a : Int), (b : Int))
theorem ret_2 {a b a' b' : Int} (h1 : a = a') (h2 : b = b') : Ending.returned (.tuple #[.int .i64 a, .int .i64 b]) = .returned (.tuple #[.int .i64 a', .int .i64 b']) := by rw [h1, h2]
set_option maxHeartbeats 4000000 in
set_option maxRecDepth 100000 in
theorem r11Next (l : List In) (A : Option Addr) (c a : Nat) (w : World) (h : InsAt w A c l) (hk : okL l) (h256 : l.length ≤ 256) (ha : a ≤ l.length) :
    Calls Try.prog 21 #[.slice A l.length c, .int .i64 (a : Int)] w fun e w' => e = .returned (.tuple #[.int .i64 (pairOf (nextL l a)).1, .int .i64 (pairOf (nextL l a)).2]) ∧ w = w' := by
  obtain ⟨hc1, hc2⟩ := seq_form h
  by_cases he : a = l.length
  · subst he
    have hn : nextL l l.length = [] := by unfold nextL; rw [List.getElem?_eq_none (Nat.le_refl _)]
    have e0 : ((l.length : Int) == (l.length : Int)) = true := by simp
    rw [hn]
    clear hk hn h
    go_enter Try.func21, Try.ntmps21
    go_wp2
    go_ret2
    exact ⟨rfl, rfl⟩
  have hlt : a < l.length := by omega
  have hli : (a : Int) < (l.length : Int) := by omega
  have e0 : ((a : Int) == (l.length : Int)) = false := by rw [beq_eq_false_iff_ne]; omega
  have e00 : (a == l.length) = false := by rw [beq_eq_false_iff_ne]; omega
  obtain ⟨x, hx⟩ : ∃ x, l[a]? = some x := ⟨_, List.getElem?_eq_getElem hlt⟩
  obtain ⟨b, off, rfl, _, hg⟩ := InsAt.at_ h hx
  have y0 := hg 0 _ (by decide) rfl
  have y5 := hg 5 _ (by decide) rfl
  rw [Nat.add_zero] at y0
  have hkx := hk x (List.mem_of_getElem? hx)
  have HN := Lib.hid ((nextL_some hx).trans (show nextX x a = _ by unfold nextX; rfl))
  clear h hk hx hg he
  by_cases h25 : x.op = 25
  · have e1 : (x.op == 25) = true := by simpa using h25
    have HN2 : Hid (nextL l a = []) := HN.out.trans (by rw [if_neg (by omega), if_neg (by omega), if_pos h25])
    clear h25 HN hkx
    go_enter Try.func21, Try.ntmps21
    go_wp2
    go_ret2
    exact ⟨ret_2 (by rw [HN2.out]; rfl) (by rw [HN2.out]; rfl), rfl⟩
  have e1 : (x.op == 25) = false := by simpa using h25
  by_cases h15 : x.op = 15
  · have e2 : (x.op == 15) = true := by simpa using h15
    have hk1 := hkx (by omega) (by omega)
    have e4 : IntKind.i64.wrap (x.k : Int) = (x.k : Int) := IntWalk.i64_in _ (by omega)
    have HN2 : Hid (nextL l a = [x.k]) := HN.out.trans (by rw [if_pos h15])
    clear h25 h15 HN hkx
    go_enter Try.func21, Try.ntmps21
    go_wp2
    go_ret2
    exact ⟨ret_2 (by rw [HN2.out]; rfl) (by rw [HN2.out]; rfl), rfl⟩
  have e2 : (x.op == 15) = false := by simpa using h15
  by_cases h16 : x.op = 16 ∨ x.op = 17
  · have hk1 := hkx (by omega) (by omega)
    have e4 : IntKind.i64.wrap (x.k : Int) = (x.k : Int) := IntWalk.i64_in _ (by omega)
    have HN2 : Hid (nextL l a = [x.k, a + 1]) := HN.out.trans (by rw [if_neg h15, if_pos h16])
    clear h25 h15 HN hkx
    rcases h16 with h16 | h16
    · have e5 : (x.op == 16) = true := by simpa using h16
      clear h16
      go_enter Try.func21, Try.ntmps21
      go_wp2
      go_ret2
      exact ⟨ret_2 (by rw [HN2.out]; rfl) (by rw [HN2.out]; rfl), rfl⟩
    · have e5 : (x.op == 16) = false := by rw [h16]; rfl
      have e6 : (x.op == 17) = true := by simpa using h16
      clear h16
      go_enter Try.func21, Try.ntmps21
      go_wp2
      go_ret2
      exact ⟨ret_2 (by rw [HN2.out]; rfl) (by rw [HN2.out]; rfl), rfl⟩
  have e5 : (x.op == 16) = false := by rw [beq_eq_false_iff_ne]; exact fun h => h16 (.inl h)
  have e6 : (x.op == 17) = false := by rw [beq_eq_false_iff_ne]; exact fun h => h16 (.inr h)
  have HN2 : Hid (nextL l a = [a + 1]) := HN.out.trans (by rw [if_neg h15, if_neg h16, if_neg h25])
  clear h25 h15 h16 HN hkx
  go_enter Try.func21, Try.ntmps21
  go_wp2
  go_ret2
  exact ⟨ret_2 (by rw [HN2.out]; rfl) (by rw [HN2.out]; rfl), rfl⟩
theorem markR_length (l : List In) (R : List Bool) (a : Nat) : (markR l R a).length = R.length := (Le.mark l R a).len.symm
theorem folds_length (l : List In) (al : List Nat) (R : List Bool) : (al.foldl (markR l) R).length = R.length := (Le.folds l al R).len.symm
theorem range_fold (l : List In) (R : List Bool) (a : Nat) : (List.range (a + 1)).foldl (markR l) R = markR l ((List.range a).foldl (markR l) R) a := by
  rw [List.range_succ, List.foldl_append]; rfl
theorem nextX_shape (x : In) (a : Nat) : nextX x a = [] ∨ (∃ b, nextX x a = [b]) ∨ ∃ b c, nextX x a = [b, c] := by
  unfold nextX
  split
  · exact .inr (.inl ⟨_, rfl⟩)
  · split
    · exact .inr (.inr ⟨_, _, rfl⟩)
    · split
      · exact .inl rfl
      · exact .inr (.inl ⟨_, rfl⟩)
theorem next_shape (l : List In) (a : Nat) : nextL l a = [] ∨ (∃ b, nextL l a = [b]) ∨ ∃ b c, nextL l a = [b, c] := by
  cases hx : l[a]? with
  | none => left; unfold nextL; rw [hx]
  | some x => rw [nextL_some hx]; exact nextX_shape x a
set_option maxHeartbeats 8000000 in
set_option maxRecDepth 100000 in
theorem r11Reach (l : List In) (A : Option Addr) (c : Nat) (w : World) (h : InsAt w A c l) (hk : okL l) (h256 : l.length ≤ 256) :
    Calls Try.prog 19 #[.slice A l.length c] w fun e w' => ∃ g, e = .returned (.slice (some ⟨g, 0, none⟩) (l.length + 1) (l.length + 1)) ∧ w'.ownsRow w.heap.size 4 1 (.slice (some ⟨g, 0, none⟩) (l.length + 1) (l.length + 1)) (l.length + 1) (boolC (rchL l)) ∧ Below w.heap.size w w' := by
  obtain ⟨hc1, hc2⟩ := seq_form h
  have hmk : ∀ W : World, (Instr.makeSlice 35 (.int .i64 ((l.length : Int) + 1)) (.int .i64 ((l.length : Int) + 1))).run Try.prog W = .ok (.slice (some ⟨W.heap.size, 0, none⟩) (l.length + 1) (l.length + 1)) (W.alloc (.cells (madeCells #[.bool false] (l.length + 1)) 4)) := fun W => by
    have := run_make_rowS (P := Try.prog) 35 4 (.bool false) 1 1 Try.underlying35 Try.infoBool .i64 .i64 (l.length + 1) (by omega) (by omega) W
    rw [Nat.mul_one] at this
    exact this
  have HH := Lib.hid h
  have HK := Lib.hid hk
  have HB3 := Lib.hid ((Below.refl w.heap.size w).alloc (Nat.le_refl _) (.cells (madeCells #[.bool false] (l.length + 1)) 4))
  have ho := owned_made w 4 (.bool false) rfl (l.length + 1) (by unfold maxLen; omega)
  have ho2 : (w.alloc (.cells (madeCells #[.bool false] (l.length + 1)) 4)).ownsRow w.heap.size 4 1 (.slice (some ⟨w.heap.size, 0, none⟩) (l.length + 1) (l.length + 1)) (l.length + 1) (boolC (List.replicate (l.length + 1) false)) := by
    unfold boolC
    rw [List.map_replicate]; exact ho
  have HO := Lib.hid ho2
  clear h hk ho ho2
  go_enter Try.func19, Try.ntmps19
  go_upto_region 2 with (fail)
  clear hmk
  generalize w.alloc (.cells (madeCells #[.bool false] (l.length + 1)) 4) = w1 at *
  obtain ⟨g, hg⟩ : ∃ g, w.heap.size = g := ⟨_, rfl⟩
  rw [hg] at HO
  rw [hg]
  have hgl : g < w1.heap.size := (own_lt HO.out (r := g) rfl).2
  have f0 := owns_free HO.out (k := 0) (by omega)
  have q0 := owns_cell HO.out (boolC_get (show (List.replicate (l.length + 1) false)[0]? = some false by simp))
  have h01 : (0 : Int) < (l.length : Int) + 1 := by omega
  have h02 : 0 < l.length + 1 := by omega
  have hset := owns_set (u := .bool true) HO.out (k := 0) (by omega)
  rw [boolC_set] at hset
  have HO2 := Lib.hid hset
  have HB4 := Lib.hid (HB3.out.trans ((Kept.put w1 g 0 (.bool true)).below HB3.out.size (fun k hk (e : k = g) => by omega)))
  have HG := Lib.hid hg
  clear hset HO HB3 hg
  go_upto_region 3 with (fail)
  clear f0 q0
  generalize w1.setCell ⟨g, 0, none⟩ (.bool true) = w2 at *
  have HS : Hid (RefK l 0 ((List.replicate (l.length + 1) false).set 0 true)) := RefK.start l
  generalize (List.replicate (l.length + 1) false).set 0 true = R0 at *
  go_wp2_with fail
  go_loopw [4] (fun u wr => ∃ (k : Nat) (R : List Bool), k ≤ l.length + 1 ∧ u = .int .i64 k ∧ Hid (RefK l k R) ∧ Hid (wr.ownsRow g 4 1 (.slice (some ⟨g, 0, none⟩) (l.length + 1) (l.length + 1)) (l.length + 1) (boolC R)) ∧ Hid (Below w.heap.size w wr)) (fun u _ => l.length + 1 - (intOf u).toNat)
  case atStart => exact ⟨0, R0, by omega, rfl, HS, HO2, HB4⟩
  case round =>
    clear HS HO2 HB4
    obtain ⟨k, R, hkn, rfl, hR, hO, hb⟩ := hrel
    by_cases hlt : k ≤ l.length
    · have hki : (k : Int) ≤ (l.length : Int) := by omega
      have hkd : decide (k ≤ l.length) = true := by simpa using hlt
      have hR0 : (List.range 0).foldl (markR l) R = R := rfl
      have hO' : Hid (wr.ownsRow g 4 1 (.slice (some ⟨g, 0, none⟩) (l.length + 1) (l.length + 1)) (l.length + 1) (boolC ((List.range 0).foldl (markR l) R))) := hO
      clear hR0 hO
      go_wp2_with fail
      go_loopw [5] (fun u wq => ∃ a : Nat, a ≤ l.length + 1 ∧ u = .int .i64 a ∧ Hid (wq.ownsRow g 4 1 (.slice (some ⟨g, 0, none⟩) (l.length + 1) (l.length + 1)) (l.length + 1) (boolC ((List.range a).foldl (markR l) R))) ∧ Hid (Below w.heap.size w wq)) (fun u _ => l.length + 1 - (intOf u).toNat)
      case atStart => exact ⟨0, by omega, rfl, hO', hb⟩
      case round =>
        clear hO' hb
        obtain ⟨a, ha, rfl, hO, hb⟩ := hrel
        have HRL : Hid (((List.range a).foldl (markR l) R).length = l.length + 1) := by
          show _ = _; rw [folds_length]; exact hR.out.1.len
        have HRF := Lib.hid (range_fold l R a)
        obtain ⟨S, hS⟩ : ∃ S, (List.range a).foldl (markR l) R = S := ⟨_, rfl⟩
        have HSX := Lib.hid hS
        rw [hS] at hO HRL HRF
        clear hS
        by_cases hlt2 : a ≤ l.length
        · have hai : (a : Int) ≤ (l.length : Int) := by omega
          have had : decide (a ≤ l.length) = true := by simpa using hlt2
          have hai2 : (a : Int) < (l.length : Int) + 1 := by omega
          obtain ⟨rb, hrb⟩ : ∃ rb, S[a]? = some rb := ⟨_, List.getElem?_eq_getElem (by have := HRL.out; omega)⟩
          have q8 := owns_cell hO.out (boolC_get hrb)
          have q8l := World.block_lt_of_cell? _ _ q8
          have HRB := Lib.hid hrb
          clear hrb
          cases rb
          case false =>
            have HSN : Hid ((List.range (a + 1)).foldl (markR l) R = S) := HRF.out.trans (by unfold markR; rw [if_neg (by rw [HRB.out]; decide)])
            have HON : Hid (wr.ownsRow g 4 1 (.slice (some ⟨g, 0, none⟩) (l.length + 1) (l.length + 1)) (l.length + 1) (boolC ((List.range (a + 1)).foldl (markR l) R))) := by show World.ownsRow _ _ _ _ _ _ _; rw [HSN.out]; exact hO.out
            clear HSN HRF hO
            go_wp2
            go_roundw
            case rel => exact ⟨a + 1, by omega, by go_num, HON, hb⟩
            case measure => simp [intOf]; omega
          case true =>
            have HSN : Hid ((List.range (a + 1)).foldl (markR l) R = markAll S (nextL l a)) := HRF.out.trans (by unfold markR; rw [if_pos HRB.out])
            have HLE := Lib.hid (fun b (hb : b ∈ nextL l a) => nextL_le HK.out hb)
            have HNX := Lib.hid (r11Next l A c a wr (HH.out.later hb.out) HK.out h256 hlt2)
            clear HRF
            rcases next_shape l a with hn | ⟨b, hn⟩ | ⟨b, b2, hn⟩
            · rw [hn] at HNX HSN
              have HON : Hid (wr.ownsRow g 4 1 (.slice (some ⟨g, 0, none⟩) (l.length + 1) (l.length + 1)) (l.length + 1) (boolC ((List.range (a + 1)).foldl (markR l) R))) := by show World.ownsRow _ _ _ _ _ _ _; rw [HSN.out]; exact hO.out
              clear HSN hO hn HLE
              go_wp2_with fail
              refine HNX.out.mono ?_
              rintro e w' ⟨rfl, rfl⟩
              go_wp2
              go_roundw
              case rel => exact ⟨a + 1, by omega, by go_num, HON, hb⟩
              case measure => simp [intOf]; omega
            · rw [hn] at HNX HSN HLE
              have hbl := HLE.out b (by simp)
              have hbi : (b : Int) < (l.length : Int) + 1 := by omega
              obtain ⟨ov, hov⟩ : ∃ ov, S[b]? = some ov := ⟨_, List.getElem?_eq_getElem (by have := HRL.out; omega)⟩
              have q7 := owns_cell hO.out (boolC_get hov)
              have f7 := owns_free hO.out (k := b) (by omega)
              have hset := owns_set (u := .bool true) hO.out (k := b) (by omega)
              rw [boolC_set] at hset
              have HON : Hid ((wr.setCell ⟨g, b, none⟩ (.bool true)).ownsRow g 4 1 (.slice (some ⟨g, 0, none⟩) (l.length + 1) (l.length + 1)) (l.length + 1) (boolC ((List.range (a + 1)).foldl (markR l) R))) := by show World.ownsRow _ _ _ _ _ _ _; rw [HSN.out]; exact hset
              have HBN := Lib.hid (hb.out.trans ((Kept.put wr g b (.bool true)).below hb.out.size (fun k hk (e : k = g) => by have := HG.out; omega)))
              clear HSN hO hn HLE hset hov hb
              go_wp2_with fail
              refine HNX.out.mono ?_
              rintro e w' ⟨rfl, rfl⟩
              dsimp only [pairOf]
              go_wp2
              go_roundw
              case rel => exact ⟨a + 1, by omega, by go_num, HON, HBN⟩
              case measure => simp [intOf]; omega
            · rw [hn] at HNX HSN HLE
              have hbl := HLE.out b (by simp)
              have hbi : (b : Int) < (l.length : Int) + 1 := by omega
              have hbl2 := HLE.out b2 (by simp)
              have hbi2 : (b2 : Int) < (l.length : Int) + 1 := by omega
              obtain ⟨ov, hov⟩ : ∃ ov, S[b]? = some ov := ⟨_, List.getElem?_eq_getElem (by have := HRL.out; omega)⟩
              have q7 := owns_cell hO.out (boolC_get hov)
              have f7 := owns_free hO.out (k := b) (by omega)
              have hset := owns_set (u := .bool true) hO.out (k := b) (by omega)
              rw [boolC_set] at hset
              obtain ⟨ov2, hov2⟩ : ∃ ov2, (S.set b true)[b2]? = some ov2 := ⟨_, List.getElem?_eq_getElem (by rw [List.length_set]; have := HRL.out; omega)⟩
              have q6 := owns_cell hset (boolC_get hov2)
              have f6 := owns_free hset (k := b2) (by omega)
              have hset2 := owns_set (u := .bool true) hset (k := b2) (by omega)
              rw [boolC_set] at hset2
              have HON : Hid (((wr.setCell ⟨g, b, none⟩ (.bool true)).setCell ⟨g, b2, none⟩ (.bool true)).ownsRow g 4 1 (.slice (some ⟨g, 0, none⟩) (l.length + 1) (l.length + 1)) (l.length + 1) (boolC ((List.range (a + 1)).foldl (markR l) R))) := by show World.ownsRow _ _ _ _ _ _ _; rw [HSN.out]; exact hset2
              have HBN := Lib.hid (hb.out.trans (((Kept.put wr g b (.bool true)).trans (Kept.put _ g b2 (.bool true)) (fun _ _ h => h)).below hb.out.size (fun k hk (e : k = g) => by have := HG.out; omega)))
              have Q6 := Lib.hid q6
              have F6 := Lib.hid f6
              clear HSN hO hn HLE hset hov hb hset2 hov2 q6 f6
              go_wp2_with fail
              refine HNX.out.mono ?_
              rintro e w' ⟨rfl, rfl⟩
              dsimp only [pairOf]
              go_upto_region 13 with (fail)
              have q6 := Q6.out
              have f6 := F6.out
              clear q7 f7 q8 q8l Q6 F6
              generalize hw9 : wr.setCell ⟨g, b, none⟩ (.bool true) = w9 at *
              have hg9 : g < w9.heap.size := World.block_lt_of_cell? _ _ q6
              clear hw9
              go_wp2
              go_roundw
              case rel => exact ⟨a + 1, by omega, by go_num, HON, HBN⟩
              case measure => simp [intOf]; omega
        · obtain rfl : a = l.length + 1 := by omega
          have had : decide (l.length + 1 ≤ l.length) = false := by simp
          have had2 : decide ((l.length : Int) + 1 ≤ (l.length : Int)) = false := decide_eq_false (by omega)
          have HR2 : Hid (RefK l (k + 1) S) := by
            have hs := hR.out.step
            have hf : roundR l R = S := by
              have h2 := HRL.out
              unfold roundR
              exact HSX.out
            rw [hf] at hs; exact hs
          go_wp2
          go_roundw
          case rel => exact ⟨k + 1, S, by omega, by go_num, HR2, hO, hb⟩
          case measure => simp [intOf]; omega
    · obtain rfl : k = l.length + 1 := by omega
      have had : decide (l.length + 1 ≤ l.length) = false := by simp
      have had2 : decide ((l.length : Int) + 1 ≤ (l.length : Int)) = false := decide_eq_false (by omega)
      have hd := hR.out.done HK.out
      rw [hd] at hO
      clear hd hR
      go_wp2
      go_ret
      exact ⟨g, rfl, by rw [HG.out]; exact hO.out, hb.out⟩
end Go.Proofs.Yteecfffgigaomaa
