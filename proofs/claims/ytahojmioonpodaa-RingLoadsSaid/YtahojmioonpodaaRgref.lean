/-
  The document's ring.
-/
import Derived.Test.YtahojmioonpodaaRing6
import Derived.Test.YtahojmioonpodaaSlref5
namespace Go.Proofs.Ytahojmioonpodaa
open Go.RowKit
set_option linter.unusedVariables false
set_option linter.unusedSimpArgs false
/-- The heads of a document's ring. -/
def HdAt (w : World) (R : Rg) (Ah : Option Addr) (ch : Nat) : Prop := SeqAt w (.slice Ah R.rd ch) (cellsH (R.h8.take R.rd))
theorem HdAt.later {w w' : World} {R : Rg} {Ah : Option Addr} {ch : Nat} (h : HdAt w R Ah ch) (k : Below w.heap.size w w') : HdAt w' R Ah ch := SeqAt.later_ h k
theorem HdAt.get {w w' : World} {R : Rg} {Ah : Option Addr} {ch j x : Nat} (h : HdAt w R Ah ch) (k : Below w.heap.size w w') (hj : j < R.rd) (hx : R.h8[j]? = some x) :
    ∃ b off, Ah = some ⟨b, off, none⟩ ∧ b < w.heap.size ∧ w'.cell? ⟨b, off + j, none⟩ = some (.int .u64 (x : Int)) :=
  SeqAt.get h k (by unfold cellsH; rw [List.getElem?_map, List.getElem?_take, if_pos hj, hx]; rfl)
theorem HdAt.cap {w : World} {R : Rg} {Ah : Option Addr} {ch : Nat} (h : HdAt w R Ah ch) : R.rd ≤ ch ∧ ch ≤ 9223372036854775807 := by
  obtain ⟨A', c', e, h1, h2, _⟩ := h
  simp only [Value.slice.injEq] at e
  obtain ⟨_, e2, rfl⟩ := e
  unfold maxLen at h2
  exact ⟨by omega, by omega⟩
set_option maxHeartbeats 1000000 in
set_option maxRecDepth 100000 in
theorem ref13Least {w : World} {R : Rg} {Ah : Option Addr} {ch : Nat} (hR : RgOk R) (h : HdAt w R Ah ch) :
    Calls Try.prog 58 #[.slice Ah R.rd ch] w fun e w' => e = .returned (.int .u64 (leastN R : Nat)) ∧ w = w' := by
  have hr1 := hR.2.1.2.2.1
  have hr2 := hR.2.1.2.2.2.1
  have h8 := hR.1
  obtain ⟨hc1, hc2⟩ := h.cap
  obtain ⟨x0, hx0⟩ : ∃ x, R.h8[0]? = some x := ⟨_, List.getElem?_eq_getElem (by omega)⟩
  obtain ⟨b, off, rfl, _, d0⟩ := h.get (Below.refl _ _) (by omega) hx0
  rw [Nat.add_zero] at d0
  have HL : Hid (leastN R = (R.h8.take R.rd).foldl min x0) := by show _ = _; unfold leastN; rw [List.getD_eq_getElem?_getD, hx0]; rfl
  have H := Lib.hid h
  have H8 := Lib.hid h8
  have h00 : 0 < R.rd := by omega
  have h01 : (0 : Int) < (R.rd : Int) := by omega
  clear h hx0 h8 hR
  go_enter Try.func58, Try.ntmps58
  go_wp2
  go_loopw [3, 4] (fun x u wr => ∃ k : Nat, k ≤ R.rd ∧ u = .int .i64 k ∧ x = .int .u64 ((R.h8.take k).foldl min x0 : Nat) ∧ wr = w) (fun _ u _ => R.rd - (intOf u).toNat)
  case atStart => exact ⟨0, by omega, rfl, rfl, rfl⟩
  case round =>
    obtain ⟨k, hk, rfl, rfl, rfl⟩ := hrel
    by_cases hlt : k < R.rd
    · have hki : (k : Int) < (R.rd : Int) := by omega
      obtain ⟨x, hx⟩ : ∃ x, R.h8[k]? = some x := ⟨_, List.getElem?_eq_getElem (by have := H8.out; omega)⟩
      obtain ⟨b2, off2, e2, _, dk⟩ := H.out.get (Below.refl _ _) hlt hx
      simp only [Option.some.injEq, Addr.mk.injEq, and_true] at e2
      obtain ⟨rfl, rfl⟩ := e2
      have hnx : (R.h8.take (k + 1)).foldl min x0 = min ((R.h8.take k).foldl min x0) x := by rw [List.take_add_one, hx, Option.toList_some, List.foldl_append]; rfl
      have HNX := Lib.hid hnx
      clear hx hnx
      generalize (R.h8.take k).foldl min x0 = m at *
      by_cases hm : x < m
      · go_wp2
        go_roundw
        case rel => exact ⟨k + 1, by omega, by go_num, by rw [HNX.out, Nat.min_eq_right (by omega)], trivial⟩
        case measure => simp [intOf]; omega
      · go_wp2
        go_roundw
        case rel => exact ⟨k + 1, by omega, by go_num, by rw [HNX.out, Nat.min_eq_left (by omega)], trivial⟩
        case measure => simp [intOf]; omega
    · obtain rfl : k = R.rd := by omega
      have hl := HL.out
      generalize (R.h8.take R.rd).foldl min x0 = m at *
      have HL2 := Lib.hid hl
      clear hl HL
      go_wp2
      go_ret
      exact ⟨ret_int (by rw [HL2.out]), rfl⟩
section
variable {w : World} {R : Rg} {Ah As : Option Addr} {ch cs : Nat}
set_option maxHeartbeats 1000000 in
set_option maxRecDepth 100000 in
theorem ref13Full (hR : RgOk R) (h : HdAt w R Ah ch) (q : Value) :
    Calls Try.prog 38 #[.agg #[.int .u64 (R.cap : Int), .int .u64 (R.tail : Int), .slice Ah R.rd ch, .bool R.cl, .slice As R.L.length cs, .int .i64 (R.rd : Int)]] w fun e w' => e = .returned (.bool (fullB R)) ∧ Below w.heap.size w w' := by
  have hb := (Below.refl w.heap.size w).alloc (Nat.le_refl _) (.cells #[.int .u64 (R.cap : Int), .int .u64 (R.tail : Int), .slice Ah R.rd ch, .bool R.cl, .slice As R.L.length cs, .int .i64 (R.rd : Int)] 38)
  have HL := Lib.hid (fun w' (h : HdAt w' R Ah ch) => ref13Least hR h)
  have hle := leastN_le hR
  have htl := hR.2.2.2.1
  have HF : Hid (fullB R = decide (R.cap ≤ R.tail - leastN R)) := rfl
  have hsub : IntKind.u64.wrap ((R.tail : Int) - (leastN R : Int)) = ((R.tail - leastN R : Nat) : Int) := by rw [IntKind.wrap_u64]; omega
  have H := Lib.hid (h.later hb)
  have HB := Lib.hid hb
  clear h hb
  generalize R.tail - leastN R = d at *
  generalize leastN R = m at *
  go_enter Try.func38, Try.ntmps38
  go_wp2
  go_quiet ((go_at_call 58; exact quiet_same3 ((HL.out _ (by exact H.out))) ⟨_, rfl⟩))
  go_wp2
  go_ret
  exact ⟨ret_bool (by rw [HF.out]), below_drewN HB.out _⟩
end
end Go.Proofs.Ytahojmioonpodaa
