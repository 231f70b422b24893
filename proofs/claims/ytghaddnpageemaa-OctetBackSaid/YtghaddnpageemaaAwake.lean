import Derived.Test.YtghaddnpageemaaWriter
namespace Go.Proofs.Ytghaddnpageemaa
open Go.RowKit
set_option linter.unusedVariables false
set_option maxHeartbeats 1000000 in
theorem awake_any (w : World) : Calls Try.prog 8 #[] w fun e w' => e = .returned (.bool true) ∧ Below w.heap.size w w' := by
  obtain ⟨s, hs⟩ : ∃ s : ByteArray, s = ⟨#[1, 2, 3]⟩ := ⟨_, rfl⟩
  have hsz : s.size = 3 := by rw [hs]; rfl
  have he : s.extract 0 (0 + (2 : Int).toNat) = ⟨#[1, 2]⟩ := by rw [hs]; decide
  have HE := Lib.hid he
  have HS := Lib.hid hs
  go_enter Try.func8, Try.ntmps8
  go_wp2_with fail
  rw [← hs]
  clear hs he
  refine (octetNew s w (by rw [hsz]; decide)).mono ?_
  rintro e w1 ⟨rfl, r1, k1⟩
  go_wp2_with fail
  refine (octetTakeOk _ s 0 2 w1 r1 (by omega) (by omega)).mono ?_
  rintro e w2 ⟨rfl, r2, k2⟩
  rw [HE.out]
  go_wp2_with fail
  refine (octetFourEnd _ s _ w2 r2 (by rw [hsz]; decide)).mono ?_
  rintro e w3 ⟨rfl, n3, rfl⟩
  go_wp2_with fail
  have r3 : RdAt (w2.drewN n3) w.heap.size s 2 := r2
  have k3 : Below w.heap.size w (w2.drewN n3) := onto_none (onto_one (onto_none (Below.refl _ _) k1) k2 (Nat.le_refl _)) (Kept.drewN _ _ _)
  generalize w2.drewN n3 = w4 at *
  clear r1 r2 k1 k2
  refine (octetByteOk _ s 2 w4 r3 (by omega)).mono ?_
  rintro e w5 ⟨rfl, r5, k5⟩
  rw [show (s[2]'(by omega)).toNat = 3 by simp only [HS.out]; rfl]
  have k5 := onto_one k3 k5 (Nat.le_refl _)
  have r5 : RdAt w5 w.heap.size s s.size := by rw [hsz]; exact r5
  go_wp2_with fail
  refine (octetByteEnd _ s w5 r5).mono ?_
  rintro e w6 ⟨rfl, n6, rfl⟩
  have r6 : RdAt (w5.drewN n6) w.heap.size s s.size := r5
  have k6 := onto_none k5 (Kept.drewN _ w5 n6)
  generalize w5.drewN n6 = w6 at *
  go_wp2_with fail
  refine (octetTakeNeg _ s 3 (-1) w6 (by omega)).mono ?_
  rintro e w7 ⟨rfl, rfl⟩
  go_wp2_with fail
  have ha := WrAt.fresh w6 w6.heap.size (Nat.le_refl _)
  have k7 := k6.alloc k6.size (.cells #[.slice none 0 0] 48)
  have r7 : RdAt (w6.alloc (.cells #[.slice none 0 0] 48)) w.heap.size s s.size := r6.kept (Kept.alloc noRow _ _) (fun h => h)
  have hsz7 : (w6.alloc (.cells #[.slice none 0 0] 48)).heap.size = w6.heap.size + 1 := by simp
  have HZ := Lib.hid hsz7
  have hB : w.heap.size ≤ w6.heap.size := k6.size
  clear hsz7 r5 r6 k5 k6 r3 k3
  generalize w6.alloc (.cells #[.slice none 0 0] 48) = w7 at *
  rw [← HZ.out]
  generalize w6.heap.size = B at *
  have hx : WrAt (w7.alloc (.cells #[.int .u8 1, .int .u8 2] 5)) B B ByteArray.empty := ha.kept (Kept.alloc noRow _ _) (fun h => h) (fun _ _ _ h => h)
  refine (octetPutSome B B ByteArray.empty ⟨#[1, 2]⟩ ⟨w7.heap.size, 0, none⟩ 2 2 _ rfl hx ?_ (by decide)).mono ?_
  · intro j u hu
    rw [addr_add, (Lies.made w7 _ _).cell j, ← hu]
    simp [Lib.strCells]
  rintro e w8 ⟨rfl, h8, k8⟩
  have r8 := (r7.kept (Kept.alloc noRow _ (.cells #[.int .u8 1, .int .u8 2] 5)) (fun h => h)).kept_wr k8 hx
  have k8 := onto_wr (k7.alloc k7.size _) k8 hB
  clear k7 r7 hx ha
  go_wp2_with fail
  refine (octetText B B _ ⟨#[120]⟩ w8 h8 (by decide)).mono ?_
  rintro e w9 ⟨rfl, h9, k9⟩
  have r9 := r8.kept_wr k9 h8
  have k9 := onto_wr k8 k9 hB
  go_wp2_with fail
  refine (octetPutFour B B _ 16777221 w9 h9 (by decide) (by decide)).mono ?_
  rintro e w10 ⟨rfl, h10, k10⟩
  have r10 := r9.kept_wr k10 h9
  have k10 := onto_wr k9 k10 hB
  rw [show ByteArray.empty ++ ⟨#[1, 2]⟩ ++ ⟨#[120]⟩ ++ fourBytes 16777221 = ⟨#[1, 2, 120, 5, 0, 0, 1]⟩ by decide] at h10
  clear h8 h9 r8 r9 k8 k9
  have H3 : (s.size : Int) = 3 := by rw [hsz]; rfl
  have e0 : ((s.size : Int) == 3) = true := by rw [H3]; rfl
  have e1 : ((s.size : Int) - (s.size : Int) == 0) = true := by simp
  clear H3 hsz
  go_wp2_with (first
    | (go_at_call 15; refine (octetAt _ s _ _ r10).mono ?_; rintro e w' ⟨rfl, rfl⟩)
    | (go_at_call 16; refine (octetLeft _ s _ _ r10).mono ?_; rintro e w' ⟨rfl, n10, rfl⟩)
    | (go_at_call 20; refine (octetString B B _ _ (show WrAt (w10.drewN n10) B B _ from h10) (by decide)).mono ?_; rintro e w' ⟨rfl, rfl⟩))
  go_ret
  exact ⟨rfl, onto_none k10 (Kept.drewN _ _ _)⟩
end Go.Proofs.Ytghaddnpageemaa
