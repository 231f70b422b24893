/-
  A visible instruction ends (layer 16): thread.finish, all events but 12 together.
-/
import Derived.Test.YtiegmpjoiekekaaThe2
namespace Go.Proofs.Ytiegmpjoiekekaa
open Go.RowKit
set_option linter.unusedVariables false
set_option linter.unusedSimpArgs false
theorem finish16 (i : In) (x : Th) (e : Ev) (v : Nat) (v0 : Value) (g : Nat) (w : World) (h : Lies w g 27 (thC x v0)) (h0 : 0 ≤ x.at_) (h256 : x.at_ ≤ 256) (ha : e.kd = 4 ∨ e.kd = 8 ∨ e.kd = 9 ∨ e.kd = 10 → 0 ≤ i.a ∧ i.a ≤ 7) (hb : e.kd ≠ 8 ∧ e.kd ≠ 9 → 0 ≤ i.b ∧ i.b ≤ 7) (hk : e.kd = 2 ∨ (4 ≤ e.kd ∧ e.kd ≤ 11) ∨ e.kd = 13) :
    Calls Try.prog 35 #[.agg (inC i), .pointer (some ⟨g, 0, none⟩), .agg (evC e), .int .u64 (v : Int)] w (PlPost g (endT (regT i x e v)) v0 w) := by
  have hc : e.kd = 2 ∨ e.kd = 4 ∨ e.kd = 5 ∨ e.kd = 6 ∨ e.kd = 7 ∨ e.kd = 8 ∨ e.kd = 9 ∨ e.kd = 10 ∨ e.kd = 11 ∨ e.kd = 13 := by omega
  rcases hc with k | k | k | k | k | k | k | k | k | k
  · exact fin2 i x e v v0 g w h h0 h256 (hb (by omega)) k
  · exact fin4 i x e v v0 g w h h0 h256 (ha (by omega)) (hb (by omega)) k
  · exact fin5 i x e v v0 g w h h0 h256 (hb (by omega)) k
  · exact fin6 i x e v v0 g w h h0 h256 (hb (by omega)) k
  · exact fin7 i x e v v0 g w h h0 h256 (hb (by omega)) k
  · exact fin8 i x e v v0 g w h h0 h256 (ha (by omega)) k
  · exact fin9 i x e v v0 g w h h0 h256 (ha (by omega)) k
  · exact fin10 i x e v v0 g w h h0 h256 (ha (by omega)) (hb (by omega)) k
  · exact fin11 i x e v v0 g w h h0 h256 (hb (by omega)) k
  · exact fin13 i x e v v0 g w h h0 h256 (hb (by omega)) k
end Go.Proofs.Ytiegmpjoiekekaa
