/-
  Checksums of programs (layer 9): code.Digest and the document's Digest.
-/
import Derived.Test.YtebgcehcnenjiaaDoorCrcsum
import Derived.Test.YtebgcehcnenjiaaDoorRfpr2
namespace Go.Proofs.YtebgcehcnenjiaaDoor
open Go.RowKit
set_option linter.unusedVariables false
set_option linter.unusedSimpArgs false
def dgN (p : Pg) : Nat := moreT entN 0 (prE p).data.toList
theorem prE_size (p : Pg) : (prE p).size ≤ maxLen := by
  unfold prE
  split
  · rename_i he
    obtain ⟨hr8, ht8, hril, hthl⟩ := enc_parts.1 he
    have h1 := flat_le (f := riE) (m := 3) p.rs (fun _ _ => Nat.le_refl _)
    have h2 := flat_le (f := thE) (m := 3850) p.ts (fun q hq => by
      obtain ⟨h1, _⟩ := hthl q hq
      have h2 := (enc_length q.length).2
      have h3 := flat_le (f := inE) (m := 15) q (fun x _ => by
        have := (enc_length x.k).2
        unfold inE
        simp only [List.length_append, List.length_cons, List.length_nil]; omega)
      unfold thE
      rw [List.length_append]; omega)
    rw [textB_size]
    unfold pgE maxLen
    simp only [List.length_append, List.length_cons, List.length_nil]; omega
  · show 0 ≤ _; omega
set_option maxHeartbeats 4000000 in
set_option maxRecDepth 100000 in
theorem codeDigest (p : Pg) (A : Option Addr) (c : Nat) (B : Option Addr) (d : Nat) (w : World) (h : PgAt w A c B d p) :
    Calls Tryd.prog 21 #[.agg (pgC A c B d p)] w fun e w' => e = .returned (.int .u32 (dgN p : Nat)) ∧ Below w.heap.size w w' := by
  have hb0 : Below w.heap.size w (w.alloc (.cells (pgC A c B d p) 35)) := (Below.refl _ _).alloc (Nat.le_refl _) _
  have HC := Lib.hid (cprint_any p A c B d _ (h.later hb0))
  have HB0 := Lib.hid hb0
  have HS := Lib.hid (fun w => crcSum entN (prE p) w isT_entN (prE_size p))
  have HD : Hid (dgN p = moreT entN 0 (prE p).data.toList) := rfl
  clear h hb0
  go_enter Tryd.func21, Tryd.ntmps21
  go_wp2_with fail
  generalize w.alloc (.cells (pgC A c B d p) 35) = w1 at *
  refine HC.out.mono ?_
  rintro e w2 ⟨rfl, hb2⟩
  have HB2 := Lib.hid (HB0.out.trans (hb2.mono HB0.out.size))
  clear HC HB0 hb2
  go_wp2_with fail
  refine (crcTable2 w2).mono ?_
  rintro e w3 ⟨rfl, hb3⟩
  have HB3 := Lib.hid (HB2.out.trans (hb3.mono HB2.out.size))
  clear HB2 hb3
  generalize (cellsU entN).toArray = T at *
  go_wp2_with fail
  refine (HS.out _).mono ?_
  rintro e w4 ⟨rfl, hb4⟩
  have HB4 := Lib.hid (HB3.out.trans (hb4.mono HB3.out.size))
  rw [← HD.out]
  clear hb4 HB3
  go_wp2
  go_ret
  exact ⟨rfl, HB4.out⟩
theorem dg_none {p : Pg} (h : encB p = false) : dgN p = 0 := by
  unfold dgN prE
  rw [h, if_neg (by decide)]
  show moreT entN 0 [] = 0
  decide +kernel
set_option maxHeartbeats 4000000 in
set_option maxRecDepth 100000 in
theorem rfDigest (p : Pg) (A : Option Addr) (c : Nat) (B : Option Addr) (d : Nat) (w : World) (h : PgAt w A c B d p) (hok : pgOk p) :
    Calls Tryd.prog 22 #[.agg (pgC A c B d p)] w fun e w' => e = .returned (.int .u32 (dgN p : Nat)) ∧ Below w.heap.size w w' := by
  have hb0 : Below w.heap.size w (w.alloc (.cells (pgC A c B d p) 35)) := (Below.refl _ _).alloc (Nat.le_refl _) _
  have l0 := Lies.made w 35 (pgC A c B d p)
  have HC := Lib.hid (rfWritten p A c B d _ (h.later hb0) hok)
  have HH := Lib.hid h
  have HB0 := Lib.hid hb0
  have HL0 := Lib.hid l0
  clear h hb0 l0
  go_enter Tryd.func22, Tryd.ntmps22
  go_wp2_with fail
  generalize w.alloc (.cells (pgC A c B d p) 35) = w1 at *
  refine HC.out.mono ?_
  rintro e w2 ⟨rfl, hb2⟩
  have HB2 := Lib.hid (HB0.out.trans (hb2.mono HB0.out.size))
  have HL2 := Lib.hid (HL0.out.below hb2 HL0.out.lt)
  clear HC HB0 hb2 HL0
  obtain ⟨eb, heb⟩ : ∃ eb, encB p = eb := ⟨_, rfl⟩
  have HEB := Lib.hid heb
  rw [heb]
  clear heb
  cases eb
  case false =>
    have HD := Lib.hid (dg_none HEB.out)
    go_wp2
    go_ret
    exact ⟨by rw [HD.out]; rfl, HB2.out⟩
  have c0 := (HL2.out.cell 0).trans (show _ = some (Value.slice A p.rs.length c) from rfl)
  have c1 := (HL2.out.cell 1).trans (show _ = some (Value.slice B p.ts.length d) from rfl)
  have cl := HL2.out.lt
  have HC := Lib.hid (rfPrint p A c B d w2 (HH.out.later HB2.out) HEB.out)
  have HE : Hid (prE p = textB (pgE p)) := by
    show _ = _
    unfold prE
    rw [HEB.out, if_pos rfl]
  have HS := Lib.hid (fun w => refSum (prE p) w (prE_size p))
  have HD : Hid (dgN p = moreT entN 0 (prE p).data.toList) := rfl
  go_wp2_with fail
  refine HC.out.mono ?_
  rintro e w3 ⟨rfl, hb3⟩
  have HB3 := Lib.hid (HB2.out.trans (hb3.mono HB2.out.size))
  rw [← HE.out]
  clear HC hb3 HB2 c0 c1 cl HL2
  go_wp2_with fail
  refine (HS.out _).mono ?_
  rintro e w4 ⟨rfl, rfl⟩
  rw [← HD.out]
  go_wp2
  go_ret
  exact ⟨rfl, HB3.out⟩
end Go.Proofs.YtebgcehcnenjiaaDoor
