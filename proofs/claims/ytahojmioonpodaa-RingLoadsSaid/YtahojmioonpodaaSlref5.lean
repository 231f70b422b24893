import Derived.Test.YtahojmioonpodaaSlref4
import Derived.Test.YtahojmioonpodaaSlnew
namespace Go.Proofs.Ytahojmioonpodaa
open Go.RowKit
set_option linter.unusedVariables false
set_option linter.unusedSimpArgs false
theorem newS_next (k : Nat) : rowsOf slF (newS k) ++ [Value.int .u64 (2 * (k : Int)), .int .u64 0, .int .i64 0] = rowsOf slF (newS (k + 1)) := by
  unfold newS
  rw [List.range_succ, List.map_append, rowsOf_append]
  congr 1
theorem one3 (a b c : Value) (h1 : a.oneCell' = true) (h2 : b.oneCell' = true) (h3 : c.oneCell' = true) : ∀ u ∈ (#[a, b, c] : Array Value).toList, u.oneCell' = true := by
  intro u hu; simp at hu; rcases hu with rfl | rfl | rfl <;> assumption
set_option maxHeartbeats 1000000 in
set_option maxRecDepth 100000 in
theorem ref12New (p r : Nat) (w : World) (h1 : p ≤ 64) (h2 : r ≤ 8) :
    Calls Try.prog 40 #[.int .i64 p, .int .i64 r] w fun e w' => ∃ v, e = .returned v ∧ RefSl w' v r (newS p) ∧ Below w.heap.size w w' ∧ RefFrom w.heap.size v := by
  have l0 := (Lies.made w 36 #[.slice none 0 0, .int .i64 0]).alloc (.cells #[.slice none 0 0, .int .i64 (r : Int)] 36)
  have l1 := Lies.made (w.alloc (.cells #[.slice none 0 0, .int .i64 0] 36)) 36 #[.slice none 0 0, .int .i64 (r : Int)]
  have z1 : (w.alloc (.cells #[.slice none 0 0, .int .i64 0] 36)).heap.size = w.heap.size + 1 := by simp
  rw [z1] at l1
  have hb0 := ((Below.refl w.heap.size w).alloc (Nat.le_refl _) (.cells #[.slice none 0 0, .int .i64 0] 36)).alloc (by simp) (.cells #[.slice none 0 0, .int .i64 (r : Int)] 36)
  have L0 := Lib.hid l0
  have L1 := Lib.hid l1
  have HB0 := Lib.hid hb0
  clear l0 l1 hb0 z1
  go_enter Try.func40, Try.ntmps40
  go_wp2_with fail
  generalize (w.alloc (.cells #[.slice none 0 0, .int .i64 0] 36)).alloc (.cells #[.slice none 0 0, .int .i64 (r : Int)] 36) = w0 at *
  go_loopw [6] (fun u wr => ∃ (k : Nat) (v : Value), k ≤ p ∧ u = .int .i64 k ∧ Lies wr w.heap.size 36 #[.slice none 0 0, .int .i64 0] ∧ Lies wr (w.heap.size + 1) 36 #[v, .int .i64 (r : Int)] ∧
      wr.ownsRow (w.heap.size + 1 + 1) 78 3 v k (rowsOf slF (newS k)) ∧ Below w.heap.size w wr) (fun u _ => p - (intOf u).toNat)
  case atStart => exact ⟨0, _, by omega, rfl, L0.out, L1.out, World.ownsRow_nil _ _ _ _, HB0.out⟩
  case round =>
    clear L0 L1 HB0
    obtain ⟨k, v, hk, rfl, l0, l1, ho, hb⟩ := hrel
    by_cases hlt : k < p
    · have hd : decide (k < p) = true := by simpa using hlt
      have u1 : IntKind.u64.wrap (k : Int) = (k : Int) := by rw [IntKind.wrap_u64]; omega
      have c0 := l1.cell 0
      simp at c0
      have hlw : w.heap.size + 1 + 1 ≤ wr.heap.size := l1.lt
      obtain ⟨A, cp, rfl, _⟩ := (SeqS.of_owns ho).form
      have HO := Lib.hid ho
      have l0' := l0.alloc (.cells #[.int .u64 (2 * (k : Int)), .int .u64 0, .int .i64 0] 78)
      have l1' := l1.alloc (.cells #[.int .u64 (2 * (k : Int)), .int .u64 0, .int .i64 0] 78)
      have LL0 := Lib.hid l0
      have LL1 := Lib.hid l1
      clear ho l0 l1 l0' l1'
      go_wp2_with (at_builtin; refine append_oneS wr #[.int .u64 (2 * (k : Int)), .int .u64 0, .int .i64 0] 3 rfl (.tmp 15) (.tmp 20) 34 rfl (w.heap.size + 1 + 1) 78 _ 24 Try.underlying34 Try.infoSlot rfl (by omega) rfl (one3 _ _ _ rfl rfl rfl) _ _ _ rfl HO.out rfl (by unfold maxLen; omega) (by omega) hlw ?_)
      intro v' w2 ho2 hb2 hg2
      have e1 := newS_next k
      simp only [e1] at ho2
      have m0 := LL0.out.below hb2 (by omega)
      have m1 := LL1.out.below hb2 (by omega)
      have hb3 := hb.trans (hb2.mono (by omega))
      have d0 := (m1.cell 0).trans (show _ = some (Value.slice A k cp) from rfl)
      have f0 := m1.free 0
      have n1 := m1.put 0 v'
      have n0 := m0.far (p := ⟨w.heap.size + 1, 0, none⟩) (show w.heap.size ≠ w.heap.size + 1 by omega) v'
      have hb4 := hb3.setCell (p := ⟨w.heap.size + 1, 0, none⟩) (show w.heap.size ≤ w.heap.size + 1 by omega) v'
      have ho4 := owns_kept ho2 (Kept.put w2 (w.heap.size + 1) 0 v') (fun r' cur hr hl (e : r' = w.heap.size + 1) => by have h5 := (ho2.lt r' hr).1; omega)
      have N1 : Hid (Lies (w2.setCell ⟨w.heap.size + 1, 0, none⟩ v') (w.heap.size + 1) 36 #[v', .int .i64 (r : Int)]) := n1
      have N0 := Lib.hid n0
      have HB4 := Lib.hid hb4
      have HO4 := Lib.hid ho4
      obtain ⟨A', cp', hv', _⟩ := (SeqS.of_owns ho2).form
      clear ho2 hb2 hg2 m0 m1 n0 n1 hb4 ho4 hb3 HO LL0 LL1 hb e1
      subst hv'
      go_wp2
      go_roundw
      case rel => exact ⟨k + 1, _, by omega, by go_num, N0.out, N1.out, HO4.out, HB4.out⟩
      case measure => simp [intOf]; omega
    · obtain rfl : k = p := by omega
      have hd : decide (k < k) = false := by simp
      have hs := SeqS.of_owns ho
      obtain ⟨A, cp, rfl, _⟩ := hs.form
      have c0 := l1.cell 0
      have c1 := l1.cell 1
      have d0 := l0.cell 0
      have d1 := l0.cell 1
      have f0 := l0.free 0
      have f1 := l0.free 1
      simp at c0 c1 d0 d1
      have v8 := slice_put (.slice A k cp) (.int .i64 (r : Int)) l0
      have hb8 := (hb.setCell (p := ⟨w.heap.size, 0, none⟩) (Nat.le_refl _) (.slice A k cp)).setCell (p := ⟨w.heap.size, 1, none⟩) (Nat.le_refl _) (.int .i64 (r : Int))
      have ho8 := owns_kept (owns_kept ho (Kept.put _ w.heap.size 0 (.slice A k cp)) (fun r' cur hr hl (e : r' = w.heap.size) => by have h5 := (ho.lt r' hr).1; omega)) (Kept.put _ w.heap.size 1 (.int .i64 (r : Int))) (fun r' cur hr hl (e : r' = w.heap.size) => by have h5 := (ho.lt r' hr).1; omega)
      have q0 := (v8.cell 0).trans (show _ = some (Value.slice A k cp) from rfl)
      have q1 := (v8.cell 1).trans (show _ = some (Value.int .i64 (r : Int)) from rfl)
      have HO8 := Lib.hid (SeqS.of_owns ho8)
      have HAB : Hid (∀ b o, A = some ⟨b, o, none⟩ → w.heap.size ≤ b) := fun b o e => by
        subst e
        have := (ho.lt b rfl).1
        omega
      have HB8 := Lib.hid hb8
      clear v8 hb8 ho8 ho hs hb l0 l1
      go_wp2
      refine bodyPost_ret (v := .agg #[.slice A k cp, .int .i64 (r : Int)]) (by simp [results, Try.results40, go_sem, q0, q1]) rfl ?_
      refine ⟨_, rfl, ⟨A, cp, by rw [newS_length], ?_⟩, HB8.out, _, _, _, _, rfl, fun b o e => HAB.out b o e⟩
      rw [newS_length]; exact HO8.out
end Go.Proofs.Ytahojmioonpodaa
