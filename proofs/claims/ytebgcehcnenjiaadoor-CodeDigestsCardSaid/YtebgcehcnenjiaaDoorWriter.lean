/-
  What the package octet's writer does, each for every input.
-/
import Derived.Test.YtebgcehcnenjiaaDoorOctet
import Derived.Test.YtebgcehcnenjiaaDoorBytes
import Derived.Laws.BitsAllLaws
import Derived.Lib.BufferRead
namespace Go.Proofs.YtebgcehcnenjiaaDoor
open Go.RowKit
set_option linter.unusedVariables false
set_option linter.unusedSimpArgs false

/-- A writer that has the bytes b; its row lies from block B on. -/
def WrAt (w : World) (B g : Nat) (b : ByteArray) : Prop := B ≤ g ∧ ∃ v, Lies w g 64 #[v] ∧ w.ownsRow B 5 1 v b.size (Lib.strCells b)
/-- What a writer's call may write: its own block, and rows of bytes from B on. -/
def wrRows (w : World) (B g : Nat) : Nat → Prop := fun k => B ≤ k ∧ (k = g ∨ ∃ cur, Lies w k 5 cur)
theorem wrRows_of (w : World) {B g : Nat} {v : Value} {n : Nat} {xs : List Value} (hb : B ≤ g) (h : w.ownsRow B 5 1 v n xs) : ∀ k, v.ownBlock = some k → wrRows w B g k := by
  intro k hk
  rcases owns_row h with ⟨rfl, _⟩ | ⟨r, cap, cur, rfl, hr, hl, _⟩
  · cases hk
  · obtain rfl : r = k := by simpa [Value.ownBlock] using hk
    exact ⟨hr, .inr ⟨cur, hl⟩⟩
theorem WrAt.kept {S : Nat → Prop} {w w' : World} {B g : Nat} {b : ByteArray} (h : WrAt w B g b) (k : Kept S w w') (h1 : ¬ S g) (h2 : ∀ r cur, Lies w r 5 cur → ¬ S r) : WrAt w' B g b := by
  obtain ⟨hb, v, hl, ho⟩ := h
  exact ⟨hb, v, hl.kept k h1, owns_kept ho k (fun r cur _ hl => h2 r cur hl)⟩

theorem onto_wr {w a b : World} {B g : Nat} (h : Below w.heap.size w a) (k : Kept (wrRows a B g) a b) (hg : w.heap.size ≤ B) : Below w.heap.size w b :=
  onto h k (fun i hi h => by have := h.1; omega)
theorem RdAt.kept_wr {w w' : World} {g B k : Nat} {s b : ByteArray} {i : Nat} (h : RdAt w g s i) (hk : Kept (wrRows w B k) w w') (hg : WrAt w B k b) : RdAt w' g s i := by
  refine h.kept hk ?_
  rintro ⟨_, h2⟩
  obtain ⟨_, v, hl, _⟩ := hg
  rcases h2 with rfl | ⟨cur, h2⟩
  · exact absurd (h.1.same hl).1 (by decide)
  · exact absurd (h.1.same h2).1 (by decide)
/-- A store of a slice that the call owns, into the one field. -/
theorem wr_store {w0 w1 : World} {B g : Nat} {v v' : Value} {b b' : ByteArray} (hb : B ≤ g) (hl : Lies w0 g 64 #[v]) (ho : w0.ownsRow B 5 1 v b.size (Lib.strCells b))
    (ho' : w1.ownsRow B 5 1 v' b'.size (Lib.strCells b')) (hg : w0.grownBy w1 v.ownBlock) :
    WrAt (w1.setCell ⟨g, 0, none⟩ v') B g b' ∧ Kept (wrRows w0 B g) w0 (w1.setCell ⟨g, 0, none⟩ v') ∧ Lies w1 g 64 #[v] := by
  have k1 : Kept (fun k => v.ownBlock = some k) w0 w1 := Kept.of_grown hg
  have hne : ¬ (v.ownBlock = some g) := by
    intro hv
    rcases owns_row ho with ⟨rfl, _⟩ | ⟨r, cap, cur, rfl, hr, hl2, _⟩
    · cases hv
    · obtain rfl : r = g := by simpa [Value.ownBlock] using hv
      have := (hl2.same hl).1
      simp at this
  have hl1 := hl.kept k1 hne
  refine ⟨⟨hb, v', ?_, owns_put ho' hl1 (by decide) 0 v'⟩, (k1.mono fun k _ hk => wrRows_of w0 hb ho k hk).trans (Kept.put _ g 0 _) (fun i _ (h : i = g) => by subst h; exact ⟨hb, .inl rfl⟩), hl1⟩
  have := hl1.put 0 v'
  simpa using this

theorem octetText (B g : Nat) (b s : ByteArray) (w : World) (h : WrAt w B g b) (hs : b.size + s.size ≤ 140737488355328) : Calls Tryd.prog 35 #[.pointer (some ⟨g, 0, none⟩), .string s] w fun e w' =>
    e = .returned (.tuple #[]) ∧ WrAt w' B g (b ++ s) ∧ Kept (wrRows w B g) w w' := by
  obtain ⟨hb, v, hl, ho⟩ := h
  obtain ⟨i0, hi, hz0, hz1, hz2⟩ := info_parts Tryd.infoU8
  have c0 : w.cell? ⟨g, 0, none⟩ = some v := hl.cell 0
  have hgs := hl.lt
  have HL := Lib.hid hl
  clear hl
  go_enter Tryd.func35, Tryd.ntmps35
  go_wp2_with (first
    | (at_builtin; refine Lib.wpList_append_own_string _ rfl (.tmp 10) (.tmp 11) 62 9 rfl B 5 i0 Tryd.underlying62 Tryd.underlying9 hi hz0 hz1 hz2 v b.size (Lib.strCells b) rfl ho s rfl (by unfold maxLen; omega) hs (by omega) ?_))
  intro v' w1 ho' hgr _
  have ho2 : w1.ownsRow B 5 1 v' (b ++ s).size (Lib.strCells (b ++ s)) := by rw [strCells_append, ByteArray.size_append]; exact ho'
  obtain ⟨r1, r2, r3⟩ := wr_store hb HL.out ho ho2 hgr
  have d0 : w1.cell? ⟨g, 0, none⟩ = some v := r3.cell 0
  have d1 : w1.frozen? ⟨g, 0, none⟩ = false := r3.free 0
  have R1 := Lib.hid r1
  have R2 := Lib.hid r2
  clear r1 r2 r3 c0 hgr ho HL
  rcases owns_row ho' with ⟨rfl, _⟩ | ⟨r, cap, cur, rfl, _⟩
  all_goals
    clear ho' ho2
    go_wp2
    go_end0
    exact ⟨rfl, R1.out, R2.out⟩

theorem octetString (B g : Nat) (b : ByteArray) (w : World) (h : WrAt w B g b) (hs : b.size ≤ maxLen) :
    Calls Tryd.prog 37 #[.pointer (some ⟨g, 0, none⟩)] w fun e w' =>
    e = .returned (.string b) ∧ w = w' := by
  obtain ⟨hb, v, hl, ho⟩ := h
  have c0 : w.cell? ⟨g, 0, none⟩ = some v := hl.cell 0
  clear hl
  rcases owns_row ho with ⟨rfl, h0, _⟩ | ⟨r, cap, cur, rfl, _⟩
  · have hb0 : b = ByteArray.empty := ByteArray.size_eq_zero_iff.1 h0
    subst hb0
    have hcv := Lib.run_convert_nil_bytes (P := Tryd.prog) w 62 9 5 0 Tryd.underlying62 Tryd.underlying5 Tryd.underlying9
    clear ho h0
    go_enter Tryd.func37, Tryd.ntmps37
    go_wp2
    go_ret
    exact ⟨rfl, rfl⟩
  · have hcv := Lib.run_convert_whole (P := Tryd.prog) w 62 5 9 Tryd.underlying62 Tryd.underlying5 Tryd.underlying9 r 0 b (fun i hi => by
      rw [Nat.zero_add, ← addr_add]
      exact ho.cells (g := r) rfl i _ (by simp only [Lib.strCells, List.getElem?_map, byte_at b i hi]; rfl)) cap
    clear ho
    go_enter Tryd.func37, Tryd.ntmps37
    go_wp2
    go_ret
    exact ⟨rfl, rfl⟩

theorem WrAt.fresh (w : World) (B : Nat) (hB : B ≤ w.heap.size) : WrAt (w.alloc (.cells #[.slice none 0 0] 64)) B w.heap.size ByteArray.empty :=
  ⟨hB, _, Lies.made _ _ _, World.ownsRow_nil _ _ _ _⟩
theorem WrAt.one {w w' : World} {B k g : Nat} {b : ByteArray} (h : WrAt w B k b) (hk : Kept (oneRow g) w w') {s : ByteArray} {i : Nat} (hg : RdAt w g s i) : WrAt w' B k b := by
  refine h.kept hk ?_ ?_
  · rintro (e : k = g)
    subst e
    obtain ⟨_, v, hl, _⟩ := h
    exact absurd (hl.same hg.1).1 (by decide)
  · rintro r cur hl (e : r = g)
    subst e
    exact absurd (hl.same hg.1).1 (by decide)
end Go.Proofs.YtebgcehcnenjiaaDoor
