import Derived.Test.YtebgcehcnenjiaaDoorWriter
namespace Go.Proofs.YtebgcehcnenjiaaDoor
open Go.RowKit
set_option linter.unusedVariables false
set_option linter.unusedSimpArgs false
/-- The bytes that a slice that came along leads to. -/
def SrcAt (w : World) (A : Option Addr) (x : ByteArray) : Prop := ∀ j u, (Lib.strCells x)[j]? = some u → ∃ ad, A = some ad ∧ w.cell? (ad.add j) = some u
theorem octetPutSome (B g : Nat) (b x : ByteArray) (ad : Addr) (m c : Nat) (w : World) (hm : x.size = m) (h : WrAt w B g b) (hx : ∀ j u, (Lib.strCells x)[j]? = some u → w.cell? (ad.add j) = some u) (hs : b.size + x.size ≤ 140737488355328) :
    Calls Tryd.prog 34 #[.pointer (some ⟨g, 0, none⟩), .slice (some ad) m c] w fun e w' =>
    e = .returned (.tuple #[]) ∧ WrAt w' B g (b ++ x) ∧ Kept (wrRows w B g) w w' := by
  subst hm
  obtain ⟨hb, v, hl, ho⟩ := h
  obtain ⟨i0, hi, hz0, hz1, hz2⟩ := info_parts Tryd.infoU8
  have c0 : w.cell? ⟨g, 0, none⟩ = some v := hl.cell 0
  have hgs := hl.lt
  have HL := Lib.hid hl
  have HX := Lib.hid hx
  clear hl hx
  go_enter Tryd.func34, Tryd.ntmps34
  go_wp2_with (first
    | (at_builtin; refine wpList_append_own _ rfl (.tmp 10) (.tmp 11) 62 rfl B 5 i0 (.int .u8 0) 1 1 Tryd.underlying62 hi hz0 hz1 hz2 rfl (by decide) v b.size (Lib.strCells b) rfl ho ad x.size c (Lib.strCells x) rfl (by rw [Lib.strCells_length, Nat.mul_one]) HX.out (Lib.strCells_oneCell x) (by unfold maxLen; omega) (by omega) (by omega) ?_))
  intro v' w1 ho' hgr _
  have ho2 : w1.ownsRow B 5 1 v' (b ++ x).size (Lib.strCells (b ++ x)) := by rw [strCells_append, ByteArray.size_append]; exact ho'
  obtain ⟨r1, r2, r3⟩ := wr_store hb HL.out ho ho2 hgr
  have d0 : w1.cell? ⟨g, 0, none⟩ = some v := r3.cell 0
  have d1 : w1.frozen? ⟨g, 0, none⟩ = false := r3.free 0
  have R1 := Lib.hid r1
  have R2 := Lib.hid r2
  clear r1 r2 r3 c0 hgr ho HL HX
  rcases owns_row ho' with ⟨rfl, _⟩ | ⟨r, cap, cur, rfl, _⟩
  all_goals
    clear ho' ho2
    go_wp2
    go_end0
    exact ⟨rfl, R1.out, R2.out⟩

end Go.Proofs.YtebgcehcnenjiaaDoor
