import Derived.Test.YtghaddnpageemaaAwake
import Derived.Test.YtghaddnpageemaaRefBytes
import Derived.Test.YtghaddnpageemaaRefTake
import Derived.Test.YtghaddnpageemaaFours
namespace Go.Proofs.Ytghaddnpageemaa
open Go.RowKit
set_option linter.unusedVariables false
/-- A script: kinds and numbers, as they lie. -/
def ArgOps (w : World) (a : Option Addr) (len cap : Nat) (z : Nat → Int × Int) : Prop := len ≤ cap ∧ cap ≤ maxLen ∧ ∀ i, i < len → (Lit.int .i64 (z i).1).wf = true ∧ (Lit.int .i64 (z i).2).wf = true ∧
  ∃ b off, a = some ⟨b, off, none⟩ ∧ b < w.heap.size ∧ w.cell? ⟨b, off + i * 2, none⟩ = some (.int .i64 (z i).1) ∧ w.cell? ⟨b, off + i * 2 + 1, none⟩ = some (.int .i64 (z i).2)
theorem opened22 {W : World} {H : Type} {enc : TypeId × Value → H} {base : Nat} {a : Option Addr} {len cap : Nat} {d : DataW H} {p : List MemPlace}
    (_ : Value.okWide Try.prog W .any base 22 (.slice a len cap)) (h : DataW.Trod enc Try.prog W 0 (fun _ => true) true 22 (.slice a len cap) d p) : ∃ z, ArgOps W a len cap z := by
  obtain ⟨h1, h2, rows, hr⟩ := argSlice_of (sz := 2) Try.underlying22 (by kernel_rfl) (by omega) h
  obtain ⟨z, hz⟩ := Deep.choose_lt (α := Int × Int) (n := len) (p := fun i q => rows i = [.int .i64 q.1, .int .i64 q.2] ∧ (Lit.int .i64 q.1).wf = true ∧ (Lit.int .i64 q.2).wf = true) (fun i hi => by
    obtain ⟨g1, ⟨n, y, g2⟩, _⟩ := hr i hi
    obtain ⟨x0, x1, e, r0, r1⟩ := twoInts (k0 := .i64) (k1 := .i64) Try.underlying29 Try.underlying3 Try.underlying3 rfl rfl (by kernel_rfl) (by kernel_rfl) g1 g2
    exact ⟨(x0, x1), e, r0, r1⟩)
  refine ⟨z, h1, h2, fun i hi => ?_⟩
  obtain ⟨e, r0, r1⟩ := hz i hi
  obtain ⟨_, _, b, off, ea, hl, hc⟩ := hr i hi
  refine ⟨r0, r1, b, off, ea, hl, ?_, ?_⟩
  · have := hc 0 (by omega); rw [e] at this; simpa using this
  · have := hc 1 (by omega); rw [e] at this; simpa using this
/-- 'string([]byte{b})'. -/
theorem convert_one (W : World) (b : UInt8) (g : Nat) (hg : W.heap.size = g) : (convert 36 9 (.slice (some ⟨g, 0, none⟩) 1 1)).run Try.prog (W.alloc (.cells #[.int .u8 b.toNat] 5)) =
    .ok (.string ⟨#[b]⟩) (W.alloc (.cells #[.int .u8 b.toNat] 5)) := by
  subst hg
  exact Lib.run_convert_whole (P := Try.prog) (W.alloc (.cells #[.int .u8 b.toNat] 5)) 36 5 9 Try.underlying36 Try.underlying5 Try.underlying9 W.heap.size 0 ⟨#[b]⟩ (fun i hi => by
    have h0 : i = 0 := by have : i < 1 := hi; omega
    subst h0
    exact (Lies.made W _ _).cell 0) 1
theorem one_byte (s : ByteArray) (i : Nat) (hi : i < s.size) : s.extract i (i + 1) = ⟨#[s[i]'hi]⟩ := by
  apply ByteArray.ext_getElem
  · rw [ByteArray.size_extract]; show _ = 1; omega
  · intro j h1 h2
    have hj : j = 0 := by have : j < 1 := h2; omega
    subst hj
    simp [ByteArray.getElem_extract]
    rfl
theorem four_again_at (s : ByteArray) (i : Nat) (h : i + 4 ≤ s.size) : fourBytes (fourNum s i) = s.extract i (i + 4) := by
  have hts : (s.extract i (i + 4)).size = 4 := by rw [ByteArray.size_extract]; omega
  have hn : fourNum (s.extract i (i + 4)) 0 = fourNum s i := by
    have b : ∀ j, j < 4 → (s.extract i (i + 4)).data.toList.getD (0 + j) 0 = s.data.toList.getD (i + j) 0 := by
      intro j hj
      rw [List.getD_eq_getElem?_getD, List.getD_eq_getElem?_getD, byte_at _ (0 + j) (by omega), byte_at s (i + j) (by omega)]
      simp [ByteArray.getElem_extract]
    have b0 := b 0 (by omega)
    rw [fourNum, fourNum, b 1 (by omega), b 2 (by omega), b 3 (by omega)]
    rw [Nat.add_zero] at b0
    rw [b0, Nat.add_zero]
  have h2 := four_again (s.extract i (i + 4)) (by omega)
  rw [hn] at h2
  rw [h2]
  have : (s.extract i (i + 4)).extract 0 4 = (s.extract i (i + 4)).extract 0 (s.extract i (i + 4)).size := by rw [hts]
  rw [this]
  exact ByteArray.extract_zero_size
set_option maxHeartbeats 4000000 in
set_option maxRecDepth 100000 in
theorem plays_walk (s : ByteArray) (a1 : Option Addr) (len1 cap1 : Nat) (z : Nat → Int × Int) (w : World) (w0 : s.size ≤ maxLen) (w1 : ArgOps w a1 len1 cap1 z) :
    Calls Try.prog 3 #[.string s, .slice a1 len1 cap1] w fun e w' => e = .returned (.bool true) ∧ Below w.heap.size w w' := by
  obtain ⟨hx1, hy1, hr1⟩ := w1
  have hc1 : cap1 ≤ 9223372036854775807 := by unfold maxLen at hy1; omega
  have hs0 := w0
  unfold maxLen at hs0
  clear hy1
  by_cases hb : 2000 < s.size ∨ 300 < len1
  · have hbel := Below.refl w.heap.size w
    by_cases hb0 : 2000 < s.size
    · have e0 : decide ((2000 : Int) < (s.size : Int)) = true := by simp; omega
      go_enter Try.func3, Try.ntmps3
      go_wp2_with (go_at_call 8; refine (awake_any _).mono ?_; rintro e w1 ⟨rfl, hb⟩; have hbel := then_ hbel hb; clear hb)
      go_ret
      exact ⟨rfl, hbel⟩
    · have e0 : decide ((2000 : Int) < (s.size : Int)) = false := by simp; omega
      have e1 : decide ((300 : Int) < (len1 : Int)) = true := by simp; omega
      go_enter Try.func3, Try.ntmps3
      go_wp2_with (go_at_call 8; refine (awake_any _).mono ?_; rintro e w1 ⟨rfl, hb⟩; have hbel := then_ hbel hb; clear hb)
      go_ret
      exact ⟨rfl, hbel⟩
  have e0 : decide ((2000 : Int) < (s.size : Int)) = false := by simp; omega
  have e1 : decide ((300 : Int) < (len1 : Int)) = false := by simp; omega
  have hb1 : len1 ≤ 300 := by omega
  have HR1 := Lib.hid hr1
  clear hr1
  go_enter Try.func3, Try.ntmps3
  go_wp2_with fail
  refine (awake_any w).mono ?_
  rintro e w2 ⟨rfl, k2⟩
  go_wp2_with fail
  refine (octetNew s w2 w0).mono ?_
  rintro e w3 ⟨rfl, r3, k3⟩
  have k3 := onto_none k2 k3
  have hg : w.heap.size ≤ w2.heap.size := k2.size
  clear k2
  have hgq : w2.heap.size < w3.heap.size := r3.1.lt
  generalize w2.heap.size = g at *
  go_wp2_with fail
  have l4 := Lies.made w3 27 #[.string s, .int .i64 0]
  have r4 := r3.kept (Kept.alloc noRow w3 (.cells #[.string s, .int .i64 0] 27)) (fun h => h)
  have k4 := k3.alloc k3.size (.cells #[.string s, .int .i64 0] 27)
  generalize w3.alloc (.cells #[.string s, .int .i64 0] 27) = w4 at *
  have hq : w.heap.size ≤ w3.heap.size := by omega
  clear r3 k3
  generalize w3.heap.size = q at *
  go_loopw [34] (fun i wr => ∃ k at_ : Nat, k ≤ len1 ∧ i = .int .i64 k ∧ RdAt wr g s at_ ∧ Lies wr q 27 #[.string s, .int .i64 at_] ∧ Below w.heap.size w wr)
    (fun i _ => len1 - (intOf i).toNat)
  case atStart => exact ⟨0, 0, by omega, rfl, r4, l4, k4⟩
  case round =>
    obtain ⟨k, at_, hk, rfl, rr, ll, kb⟩ := hrel
    clear r4 l4 k4
    by_cases hlt : k < len1
    · have hki : (k : Int) < (len1 : Int) := by omega
      obtain ⟨v0, v1, b, off, rfl, hl, hc0, hc1⟩ := HR1.out k hlt
      have hd0 := (kb.cell (p := ⟨b, off + k * 2, none⟩) hl).trans hc0
      have hd1 := (kb.cell (p := ⟨b, off + k * 2 + 1, none⟩) hl).trans hc1
      clear hc0 hc1
      generalize (z k).1 = K at *
      generalize (z k).2 = N at *
      obtain ⟨b0, b1⟩ := Go.bounds_i64 v0
      obtain ⟨b2, b3⟩ := Go.bounds_i64 v1
      have r5 := rr.kept (Kept.alloc noRow wr (.cells #[.int .i64 K, .int .i64 N] 29)) (fun h => h)
      have l5 := ll.alloc (.cells #[.int .i64 K, .int .i64 N] 29)
      have k5 := kb.alloc kb.size (.cells #[.int .i64 K, .int .i64 N] 29)
      have lo5 := Lies.made wr 29 #[.int .i64 K, .int .i64 N]
      have hat : at_ ≤ s.size := rr.2.1
      have hgl := rr.1.lt
      have hql := ll.lt
      clear rr ll kb v0 v1
      cases h0 : (wrap64 ((IntKind.u64.wrap K).tmod 3) == 0)
      · cases h1 : (wrap64 ((IntKind.u64.wrap K).tmod 3) == 1)
        · by_cases hend : at_ + 4 ≤ s.size
          · have HT : Hid (takeText s at_ 4 = s.extract at_ (at_ + 4) ∧ takeErr s at_ 4 = 0 ∧ takeAt s at_ 4 = at_ + 4) := by
              unfold takeText takeErr takeAt Hid
              rw [if_neg (by omega), if_neg (by omega), if_neg (by omega), if_neg (by omega)]
              exact ⟨rfl, rfl, rfl⟩
            go_wp2_with fail
            generalize wr.alloc (.cells #[.int .i64 K, .int .i64 N] 29) = w5 at *
            refine (octetFourOk g s at_ w5 r5 hend).mono ?_
            rintro e w6 ⟨rfl, r6, k6⟩
            have l6 := l5.kept k6 (fun (h : q = g) => by omega)
            have k6 := onto_one k5 k6 hg
            have c0 : w6.cell? ⟨q, 0, none⟩ = some (.string s) := l6.cell 0
            have c1 : w6.cell? ⟨q, 1, none⟩ = some (.int .i64 at_) := l6.cell 1
            clear r5 l5 k5
            go_wp2_with fail
            refine (refTake s at_ 4 w6 hat w0).mono ?_
            rintro e w7 ⟨rfl, k7⟩
            rw [HT.out.1, HT.out.2.1, HT.out.2.2]
            have l7 := l6.below k7 l6.lt
            have r7 := r6.kept (Kept.of_below k7) (fun h => h)
            have k7 := then_ k6 k7
            have c0 : w7.cell? ⟨q, 0, none⟩ = some (.string s) := l7.cell 0
            have c1 : w7.cell? ⟨q, 1, none⟩ = some (.int .i64 at_) := l7.cell 1
            have f0 : w7.frozen? ⟨q, 0, none⟩ = false := l7.free 0
            have f1 : w7.frozen? ⟨q, 1, none⟩ = false := l7.free 1
            clear r6 l6 k6
            have l8 := (l7.put 0 (.string s)).put 1 (.int .i64 ((at_ : Int) + 4))
            have r8 := (r7.kept (Kept.put w7 q 0 (.string s)) (fun (h : g = q) => by omega)).kept (Kept.put _ q 1 (.int .i64 ((at_ : Int) + 4))) (fun (h : g = q) => by omega)
            have k8 := (k7.setCell (p := ⟨q, 0, none⟩) hq (.string s)).setCell (p := ⟨q, 1, none⟩) hq (.int .i64 ((at_ : Int) + 4))
            go_wp2_with fail
            clear l7 r7 k7 f0 f1 c0 c1
            generalize ((w7.setCell ⟨q, 0, none⟩ (.string s)).setCell ⟨q, 1, none⟩ (.int .i64 ((at_ : Int) + 4))) = w7b at *
            have l7 : Lies w7b q 27 #[.string s, .int .i64 ((at_ + 4 : Nat) : Int)] := l8
            clear l8
            refine (refBytes (fourNum s at_) w7b (fourNum_lt _ _)).mono ?_
            rintro e w8 ⟨rfl, k9⟩
            rw [four_again_at s at_ hend]
            have l8 := l7.kept k9 (fun h => h)
            have r8 := r8.kept k9 (fun h => h)
            have k8 := onto_none k8 k9
            clear l7
            go_wp2_with fail
            have hat2 := r8.2.1
            have c0 : w8.cell? ⟨q, 0, none⟩ = some (.string s) := l8.cell 0
            have c1 : w8.cell? ⟨q, 1, none⟩ = some (.int .i64 ((at_ + 4 : Nat) : Int)) := l8.cell 1
            go_quiet ((first | (go_at_call 15; exact Calls.quiet_of_same ((octetAt g s (at_ + 4) _ (by exact r8)).mono (fun _ _ h => ⟨h.1, h.2.symm⟩))) | (go_at_call 16; exact Calls.quiet_of (octetLeft g s (at_ + 4) _ (by exact r8)))))
            go_wp2
            go_roundw
            case rel => exact ⟨k + 1, at_ + 4, by omega, by go_num, r8.kept (Kept.drewN noRow _ _) (fun h => h), l8.drewN _, onto_none k8 (Kept.drewN _ _ _)⟩
            case measure => simp [intOf]; omega
          · have HT : Hid (takeText s at_ 4 = ⟨#[]⟩ ∧ takeErr s at_ 4 = 2 ∧ takeAt s at_ 4 = at_) := by
              unfold takeText takeErr takeAt Hid
              rw [if_pos (by omega), if_neg (by omega), if_pos (by omega), if_pos (by omega)]
              exact ⟨rfl, rfl, rfl⟩
            go_wp2_with fail
            generalize wr.alloc (.cells #[.int .i64 K, .int .i64 N] 29) = w5 at *
            refine (octetFourEnd g s at_ w5 r5 (by omega)).mono ?_
            rintro e w6' ⟨rfl, n6, rfl⟩
            have r6 : RdAt (w5.drewN n6) g s at_ := r5
            have l6 : Lies (w5.drewN n6) q 27 #[.string s, .int .i64 (at_ : Nat)] := l5
            have k6 := onto_none k5 (Kept.drewN _ w5 n6)
            generalize w5.drewN n6 = w6 at *
            have c0 : w6.cell? ⟨q, 0, none⟩ = some (.string s) := l6.cell 0
            have c1 : w6.cell? ⟨q, 1, none⟩ = some (.int .i64 at_) := l6.cell 1
            clear r5 l5 k5
            go_wp2_with fail
            refine (refTake s at_ 4 w6 hat w0).mono ?_
            rintro e w7 ⟨rfl, k7⟩
            rw [HT.out.1, HT.out.2.1, HT.out.2.2]
            have l7 := l6.below k7 l6.lt
            have r7 := r6.kept (Kept.of_below k7) (fun h => h)
            have k7 := then_ k6 k7
            have c0 : w7.cell? ⟨q, 0, none⟩ = some (.string s) := l7.cell 0
            have c1 : w7.cell? ⟨q, 1, none⟩ = some (.int .i64 at_) := l7.cell 1
            have f0 : w7.frozen? ⟨q, 0, none⟩ = false := l7.free 0
            have f1 : w7.frozen? ⟨q, 1, none⟩ = false := l7.free 1
            clear r6 l6 k6
            go_wp2_with fail
            generalize hW : (w7.setCell ⟨q, 0, none⟩ (.string s)).setCell ⟨q, 1, none⟩ (.int .i64 (at_ : Int)) = w8 at *
            have k8 : Below w.heap.size w w8 := by rw [← hW]; exact (k7.setCell (p := ⟨q, 0, none⟩) hq _).setCell (p := ⟨q, 1, none⟩) hq _
            have l8 : Lies w8 q 27 #[.string s, .int .i64 (at_ : Nat)] := by rw [← hW]; exact (l7.put 0 _).put 1 _
            have r8 : RdAt w8 g s (at_) := by rw [← hW]; exact (r7.kept (Kept.put w7 q 0 _) (fun (h : g = q) => by omega)).kept (Kept.put _ q 1 _) (fun (h : g = q) => by omega)
            clear hW l7 r7 k7 f0 f1 c0 c1
            have hat2 := r8.2.1
            have c0 : w8.cell? ⟨q, 0, none⟩ = some (.string s) := l8.cell 0
            have c1 : w8.cell? ⟨q, 1, none⟩ = some (.int .i64 ((at_ : Nat) : Int)) := l8.cell 1
            go_quiet ((first | (go_at_call 15; exact Calls.quiet_of_same ((octetAt g s (at_) _ (by exact r8)).mono (fun _ _ h => ⟨h.1, h.2.symm⟩))) | (go_at_call 16; exact Calls.quiet_of (octetLeft g s (at_) _ (by exact r8)))))
            go_wp2
            go_roundw
            case rel => exact ⟨k + 1, at_, by omega, by go_num, r8.kept (Kept.drewN noRow _ _) (fun h => h), l8.drewN _, onto_none k8 (Kept.drewN _ _ _)⟩
            case measure => simp [intOf]; omega
        · go_wp2_with fail
          generalize wr.alloc (.cells #[.int .i64 K, .int .i64 N] 29) = w5 at *
          refine (octetTake g s at_ N w5 r5).mono ?_
          rintro e w6 ⟨rfl, r6, k6⟩
          have l6 := l5.kept k6 (fun (h : q = g) => by omega)
          have lo6 := lo5.kept k6 (fun (h : _ = g) => by omega)
          have k6 := onto_one k5 k6 hg
          have o1 : w6.cell? ⟨wr.heap.size, 1, none⟩ = some (.int .i64 N) := lo6.cell 1
          have c0 : w6.cell? ⟨q, 0, none⟩ = some (.string s) := l6.cell 0
          have c1 : w6.cell? ⟨q, 1, none⟩ = some (.int .i64 at_) := l6.cell 1
          clear r5 l5 k5 lo5
          go_wp2_with fail
          refine (refTake s at_ N w6 hat w0).mono ?_
          rintro e w7 ⟨rfl, k7⟩
          have l7 := l6.below k7 l6.lt
          have r7 := r6.kept (Kept.of_below k7) (fun h => h)
          have k7 := then_ k6 k7
          have c0 : w7.cell? ⟨q, 0, none⟩ = some (.string s) := l7.cell 0
          have c1 : w7.cell? ⟨q, 1, none⟩ = some (.int .i64 at_) := l7.cell 1
          have f0 : w7.frozen? ⟨q, 0, none⟩ = false := l7.free 0
          have f1 : w7.frozen? ⟨q, 1, none⟩ = false := l7.free 1
          clear r6 l6 k6
          go_wp2_with fail
          generalize hW : (w7.setCell ⟨q, 0, none⟩ (.string s)).setCell ⟨q, 1, none⟩ (.int .i64 (takeAt s at_ N : Int)) = w8 at *
          have k8 : Below w.heap.size w w8 := by rw [← hW]; exact (k7.setCell (p := ⟨q, 0, none⟩) hq _).setCell (p := ⟨q, 1, none⟩) hq _
          have l8 : Lies w8 q 27 #[.string s, .int .i64 (takeAt s at_ N : Nat)] := by rw [← hW]; exact (l7.put 0 _).put 1 _
          have r8 : RdAt w8 g s (takeAt s at_ N) := by rw [← hW]; exact (r7.kept (Kept.put w7 q 0 _) (fun (h : g = q) => by omega)).kept (Kept.put _ q 1 _) (fun (h : g = q) => by omega)
          clear hW l7 r7 k7 f0 f1 c0 c1
          have hat2 := r8.2.1
          have c0 : w8.cell? ⟨q, 0, none⟩ = some (.string s) := l8.cell 0
          have c1 : w8.cell? ⟨q, 1, none⟩ = some (.int .i64 ((takeAt s at_ N : Nat) : Int)) := l8.cell 1
          go_quiet ((first | (go_at_call 15; exact Calls.quiet_of_same ((octetAt g s (takeAt s at_ N) _ (by exact r8)).mono (fun _ _ h => ⟨h.1, h.2.symm⟩))) | (go_at_call 16; exact Calls.quiet_of (octetLeft g s (takeAt s at_ N) _ (by exact r8)))))
          go_wp2
          go_roundw
          case rel => exact ⟨k + 1, takeAt s at_ N, by omega, by go_num, r8.kept (Kept.drewN noRow _ _) (fun h => h), l8.drewN _, onto_none k8 (Kept.drewN _ _ _)⟩
          case measure => simp [intOf]; omega
      · by_cases hend : at_ < s.size
        · have HT : Hid (takeText s at_ 1 = s.extract at_ (at_ + 1) ∧ takeErr s at_ 1 = 0 ∧ takeAt s at_ 1 = at_ + 1) := by
            unfold takeText takeErr takeAt Hid
            rw [if_neg (by omega), if_neg (by omega), if_neg (by omega), if_neg (by omega)]
            exact ⟨rfl, rfl, rfl⟩
          go_wp2_with fail
          generalize wr.alloc (.cells #[.int .i64 K, .int .i64 N] 29) = w5 at *
          refine (octetByteOk g s at_ w5 r5 hend).mono ?_
          rintro e w6 ⟨rfl, r6, k6⟩
          have l6 := l5.kept k6 (fun (h : q = g) => by omega)
          have k6 := onto_one k5 k6 hg
          have c0 : w6.cell? ⟨q, 0, none⟩ = some (.string s) := l6.cell 0
          have c1 : w6.cell? ⟨q, 1, none⟩ = some (.int .i64 at_) := l6.cell 1
          clear r5 l5 k5
          go_wp2_with fail
          refine (refTake s at_ 1 w6 hat w0).mono ?_
          rintro e w7 ⟨rfl, k7⟩
          rw [HT.out.1, HT.out.2.1, HT.out.2.2]
          have l7 := l6.below k7 l6.lt
          have r7 := r6.kept (Kept.of_below k7) (fun h => h)
          have k7 := then_ k6 k7
          have c0 : w7.cell? ⟨q, 0, none⟩ = some (.string s) := l7.cell 0
          have c1 : w7.cell? ⟨q, 1, none⟩ = some (.int .i64 at_) := l7.cell 1
          have f0 : w7.frozen? ⟨q, 0, none⟩ = false := l7.free 0
          have f1 : w7.frozen? ⟨q, 1, none⟩ = false := l7.free 1
          clear r6 l6 k6
          have hcv := convert_one ((w7.setCell ⟨q, 0, none⟩ (.string s)).setCell ⟨q, 1, none⟩ (.int .i64 ((at_ : Int) + 1))) (s[at_]'hend) w7.heap.size (by simp)
          rw [← one_byte s at_ hend] at hcv
          go_wp2_with fail
          clear hcv
          generalize hW : ((w7.setCell ⟨q, 0, none⟩ (.string s)).setCell ⟨q, 1, none⟩ (.int .i64 ((at_ : Int) + 1))).alloc (.cells #[.int .u8 (s[at_]'hend).toNat] 5) = w8 at *
          have k8 : Below w.heap.size w w8 := by rw [← hW]; exact ((k7.setCell (p := ⟨q, 0, none⟩) hq _).setCell (p := ⟨q, 1, none⟩) hq _).alloc (by simpa using k7.size) _
          have l8 : Lies w8 q 27 #[.string s, .int .i64 ((at_ + 1 : Nat) : Int)] := by rw [← hW]; exact ((l7.put 0 _).put 1 _).alloc _
          have r8 : RdAt w8 g s (at_ + 1) := by rw [← hW]; exact ((r7.kept (Kept.put w7 q 0 _) (fun (h : g = q) => by omega)).kept (Kept.put _ q 1 _) (fun (h : g = q) => by omega)).kept (Kept.alloc noRow _ _) (fun h => h)
          clear hW l7 r7 k7 f0 f1 c0 c1
          have hat2 := r8.2.1
          have c0 : w8.cell? ⟨q, 0, none⟩ = some (.string s) := l8.cell 0
          have c1 : w8.cell? ⟨q, 1, none⟩ = some (.int .i64 ((at_ + 1 : Nat) : Int)) := l8.cell 1
          go_quiet ((first | (go_at_call 15; exact Calls.quiet_of_same ((octetAt g s (at_ + 1) _ (by exact r8)).mono (fun _ _ h => ⟨h.1, h.2.symm⟩))) | (go_at_call 16; exact Calls.quiet_of (octetLeft g s (at_ + 1) _ (by exact r8)))))
          go_wp2
          go_roundw
          case rel => exact ⟨k + 1, (at_ + 1), by omega, by go_num, r8.kept (Kept.drewN noRow _ _) (fun h => h), l8.drewN _, onto_none k8 (Kept.drewN _ _ _)⟩
          case measure => simp [intOf]; omega
        · have hat3 : at_ = s.size := by omega
          have HT : Hid (takeText s at_ 1 = ⟨#[]⟩ ∧ takeErr s at_ 1 = 2 ∧ takeAt s at_ 1 = at_) := by
            unfold takeText takeErr takeAt Hid
            rw [if_pos (by omega), if_neg (by omega), if_pos (by omega), if_pos (by omega)]
            exact ⟨rfl, rfl, rfl⟩
          go_wp2_with fail
          generalize wr.alloc (.cells #[.int .i64 K, .int .i64 N] 29) = w5 at *
          refine (octetByteEnd g s w5 (by rw [← hat3]; exact r5)).mono ?_
          rintro e w6' ⟨rfl, n6, rfl⟩
          have r6 : RdAt (w5.drewN n6) g s at_ := r5
          have l6 : Lies (w5.drewN n6) q 27 #[.string s, .int .i64 (at_ : Nat)] := l5
          have k6 := onto_none k5 (Kept.drewN _ w5 n6)
          generalize w5.drewN n6 = w6 at *
          clear hat3
          have c0 : w6.cell? ⟨q, 0, none⟩ = some (.string s) := l6.cell 0
          have c1 : w6.cell? ⟨q, 1, none⟩ = some (.int .i64 at_) := l6.cell 1
          clear r5 l5 k5
          go_wp2_with fail
          refine (refTake s at_ 1 w6 hat w0).mono ?_
          rintro e w7 ⟨rfl, k7⟩
          rw [HT.out.1, HT.out.2.1, HT.out.2.2]
          have l7 := l6.below k7 l6.lt
          have r7 := r6.kept (Kept.of_below k7) (fun h => h)
          have k7 := then_ k6 k7
          have c0 : w7.cell? ⟨q, 0, none⟩ = some (.string s) := l7.cell 0
          have c1 : w7.cell? ⟨q, 1, none⟩ = some (.int .i64 at_) := l7.cell 1
          have f0 : w7.frozen? ⟨q, 0, none⟩ = false := l7.free 0
          have f1 : w7.frozen? ⟨q, 1, none⟩ = false := l7.free 1
          clear r6 l6 k6
          go_wp2_with fail
          generalize hW : (w7.setCell ⟨q, 0, none⟩ (.string s)).setCell ⟨q, 1, none⟩ (.int .i64 (at_ : Int)) = w8 at *
          have k8 : Below w.heap.size w w8 := by rw [← hW]; exact (k7.setCell (p := ⟨q, 0, none⟩) hq _).setCell (p := ⟨q, 1, none⟩) hq _
          have l8 : Lies w8 q 27 #[.string s, .int .i64 (at_ : Nat)] := by rw [← hW]; exact (l7.put 0 _).put 1 _
          have r8 : RdAt w8 g s (at_) := by rw [← hW]; exact (r7.kept (Kept.put w7 q 0 _) (fun (h : g = q) => by omega)).kept (Kept.put _ q 1 _) (fun (h : g = q) => by omega)
          clear hW l7 r7 k7 f0 f1 c0 c1
          have hat2 := r8.2.1
          have c0 : w8.cell? ⟨q, 0, none⟩ = some (.string s) := l8.cell 0
          have c1 : w8.cell? ⟨q, 1, none⟩ = some (.int .i64 ((at_ : Nat) : Int)) := l8.cell 1
          go_quiet ((first | (go_at_call 15; exact Calls.quiet_of_same ((octetAt g s (at_) _ (by exact r8)).mono (fun _ _ h => ⟨h.1, h.2.symm⟩))) | (go_at_call 16; exact Calls.quiet_of (octetLeft g s (at_) _ (by exact r8)))))
          go_wp2
          go_roundw
          case rel => exact ⟨k + 1, at_, by omega, by go_num, r8.kept (Kept.drewN noRow _ _) (fun h => h), l8.drewN _, onto_none k8 (Kept.drewN _ _ _)⟩
          case measure => simp [intOf]; omega
    · obtain rfl : len1 = k := by omega
      go_wp2
      go_ret
      exact ⟨rfl, kb⟩
end Go.Proofs.Ytghaddnpageemaa
