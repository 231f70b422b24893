import Derived.Test.YtjkgckdldmhgjaaPacks
namespace Go.Proofs.Ytjkgckdldmhgjaa
open Go.RowKit
set_option linter.unusedVariables false
set_option linter.unusedSimpArgs false
theorem pushRun_last (rs : List (Nat × Nat)) (n : Nat) : ∃ d y, pushRun rs n = d ++ [(n, y)] := by
  rcases runs_cases rs with rfl | ⟨l, v, c, rfl⟩
  · exact ⟨[], 1, rfl⟩
  · by_cases e : v = n
    · subst e; exact ⟨_, _, pushRun_same _ _ _⟩
    · exact ⟨_, _, pushRun_new _ _ _ _ e⟩
theorem packs_last {l : List Nat} {k n : Nat} (h : l[k]? = some n) : ∃ d y, packs (l.take (k + 1)) = d ++ [(n, y)] := by
  rw [packs_next h]; exact pushRun_last _ _
theorem Try.infoRun4 : (Try.prog.info? 37).map (fun i => (i.zero, i.size, i.bytes)) = some (some (.agg #[.int .u64 0, .int .u64 0]), 2, 16) := by kernel_rfl
set_option maxHeartbeats 1000000 in
theorem refPack (v : Value) (l : List Nat) (w : World) (h : SeqAt w v (cells64 l)) (hl : l.length ≤ 1099511627776) (hm : ∀ n ∈ l, n < M64) :
    Calls Try.prog 13 #[v] w fun e w' => ∃ v', e = .returned v' ∧ w'.ownsRow w.heap.size 37 2 v' (packs l).length (cells2 (packs l)) ∧ Below w.heap.size w w' := by
  have h0 := h
  obtain ⟨A, c, rfl, hc1, hc2, _⟩ := h
  have hcl : (cells64 l).length = l.length := by simp [cells64]
  rw [hcl] at hc1 h0 ⊢
  unfold maxLen at hc2
  clear hcl
  go_enter Try.func13, Try.ntmps13
  go_wp2
  go_loopw [3, 4] (fun t c wr => ∃ k : Nat, k ≤ l.length ∧ c = .int .i64 k ∧ wr.ownsRow w.heap.size 37 2 t (packs (l.take k)).length (cells2 (packs (l.take k))) ∧ Below w.heap.size w wr)
    (fun _ c _ => l.length - (intOf c).toNat)
  case atStart => exact ⟨0, by omega, rfl, World.ownsRow_nil _ _ _ _, Below.refl _ _⟩
  case round =>
    obtain ⟨k, hk, rfl, ho, hb⟩ := hrel
    by_cases hlt : k < l.length
    · have hki : (k : Int) < (l.length : Int) := by omega
      have hg : l[k]? = some l[k] := List.getElem?_eq_getElem hlt
      obtain ⟨b, off, rfl, _, hcell⟩ := h0.get hb (cells64_get hg)
      have hnx := packs_next hg
      have hin := packs_in (l.take k)
      rw [List.length_take, Nat.min_eq_left hk] at hin
      have hn := hm _ (List.getElem_mem hlt)
      have hbs := hb.size
      have HO := Lib.hid ho
      rcases Nat.eq_zero_or_pos k with rfl | hk0
      · have hpe : packs (l.take 0) = [] := by simp [packs]
        rw [hpe, pushRun_nil] at hnx
        rw [hpe] at ho HO
        generalize l[0] = n at *
        unfold M64 at hn
        have HNX := Lib.hid hnx
        obtain ⟨A2, cp2, hv2, _⟩ := (SeqS.of_owns ho).form
        rw [hv2] at HO
        rw [hv2]
        clear hnx ho hin h0 hg hv2 hpe
        rw [Nat.add_zero] at hcell
        go_wp2
        go_quiet (fail)
        go_wp2_with (at_builtin; refine append_oneS _ #[.int .u64 n, .int .u64 1] 2 rfl (.tmp 35) (.tmp 41) 30 rfl w.heap.size 37 _ 16 Try.underlying30 Try.infoRun4 rfl (by omega) rfl (by simp [Value.oneCell']) _ _ _ rfl HO.out rfl (by unfold maxLen; simp) (by simp) hbs ?_)
        intro v' w1 ho1 hb1 _
        have HS := Lib.hid ho1
        have HBN := Lib.hid ((below_drewN hb _).trans hb1)
        clear ho1 hb1 hb
        go_wp2
        go_roundw
        case rel => exact ⟨1, by omega, by go_num, by rw [show List.take (0 + 1) l = List.take 1 l from rfl] at HNX; rw [HNX.out]; exact HS.out, HBN.out⟩
        case measure => simp [intOf]; omega
      · obtain ⟨m, rfl⟩ : ∃ m, k = m + 1 := ⟨k - 1, by omega⟩
        have hg1 : l[m]? = some l[m] := List.getElem?_eq_getElem (by omega)
        obtain ⟨b', off', hbo, _, hcell1⟩ := h0.get hb (cells64_get hg1)
        simp only [Option.some.injEq, Addr.mk.injEq, and_true] at hbo
        obtain ⟨rfl, rfl⟩ := hbo
        obtain ⟨d, y, hpl⟩ := packs_last hg1
        rw [hpl] at hnx hin ho HO
        generalize l[m + 1] = n at *
        generalize l[m] = x at *
        unfold M64 at hn
        have hlen : (d ++ [(x, y)]).length = d.length + 1 := by simp
        rw [hlen] at ho
        obtain ⟨g, cap, hv, hgb, hg2, hc3, hc4⟩ := owns_openS ho (by omega)
        rw [hv] at ho
        rw [hv]
        obtain ⟨c1, c2, c3, c4⟩ := own_last ho rfl
        have hdl := hin.1
        have hy := hin.2 (x, y) (by simp)
        simp only at hy
        rw [hlen] at hdl
        have hmi : (m : Int) < (l.length : Int) := by omega
        clear hin h0 hg hg1 hpl
        by_cases hxn : x = n
        · subst hxn
          rw [pushRun_same] at hnx
          have HNX := Lib.hid hnx
          have HS := Lib.hid (c4 (y + 1))
          have hbn := fun n => (below_drewN hb n).setCell (p := ⟨g, d.length * 2 + 1, none⟩) hgb (.int .u64 ((y + 1 : Nat) : Int))
          have HBN := Lib.hid hbn
          have e1 : ((x : Int) == (x : Int)) = true := by simp
          clear hnx c4 hbn ho hb HO hv hlen
          go_wp2
          go_quiet (fail)
          go_wp2
          go_roundw
          case rel => exact ⟨m + 1 + 1, by omega, by go_num, by rw [HNX.out, show (d ++ [(x, y + 1)]).length = d.length + 1 by simp]; exact HS.out, HBN.out _⟩
          case measure => simp [intOf]; omega
        · rw [pushRun_new _ _ _ _ hxn] at hnx
          have HNX := Lib.hid hnx
          have HO2 := Lib.hid ho
          have e1 : ((n : Int) == (x : Int)) = false := by simp; omega
          have hlen2 : (d ++ [(x, y)] ++ [(n, 1)]).length = d.length + 1 + 1 := by simp
          have HLEN2 := Lib.hid hlen2
          clear hnx c4 ho HO hv hlen c2 c3 hlen2 c1
          go_wp2
          go_quiet (fail)
          go_wp2_with (at_builtin; refine append_oneS _ #[.int .u64 n, .int .u64 1] 2 rfl (.tmp 35) (.tmp 41) 30 rfl w.heap.size 37 _ 16 Try.underlying30 Try.infoRun4 rfl (by omega) rfl (by simp [Value.oneCell']) _ _ _ rfl HO2.out rfl (by unfold maxLen; omega) (by omega) hbs ?_)
          intro v' w1 ho1 hb1 _
          have ho2 : w1.ownsRow w.heap.size 37 2 v' (d.length + 1 + 1) (cells2 ((d ++ [(x, y)]) ++ [(n, 1)])) := by
            rw [cells2_append (d ++ [(x, y)])]; exact ho1
          have HS := Lib.hid ho2
          have HBN := Lib.hid ((below_drewN hb _).trans hb1)
          clear ho1 ho2 hb1 hb
          go_wp2
          go_roundw
          case rel => exact ⟨m + 1 + 1, by omega, by go_num, by rw [HNX.out, HLEN2.out]; exact HS.out, HBN.out⟩
          case measure => simp [intOf]; omega
    · obtain rfl : k = l.length := by omega
      rw [List.take_of_length_le (Nat.le_refl _)] at ho
      go_wp2
      go_ret
      exact ⟨_, rfl, ho, hb⟩
end Go.Proofs.Ytjkgckdldmhgjaa
