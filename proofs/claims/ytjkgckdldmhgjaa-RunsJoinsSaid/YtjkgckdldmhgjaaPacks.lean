import Derived.Test.YtjkgckdldmhgjaaSame
import Derived.Test.YtjkgckdldmhgjaaStructs
namespace Go.Proofs.Ytjkgckdldmhgjaa
open Go.RowKit
set_option linter.unusedVariables false
set_option linter.unusedSimpArgs false
/-- One number more. -/
def pushRun (rs : List (Nat × Nat)) (n : Nat) : List (Nat × Nat) := match rs.getLast? with
  | some (v, c) => if v = n then rs.dropLast ++ [(v, c + 1)] else rs ++ [(n, 1)]
  | none => [(n, 1)]
def packs (l : List Nat) : List (Nat × Nat) := l.foldl pushRun []
theorem pushRun_nil (n : Nat) : pushRun [] n = [(n, 1)] := rfl
theorem pushRun_same (l : List (Nat × Nat)) (n c : Nat) : pushRun (l ++ [(n, c)]) n = l ++ [(n, c + 1)] := by simp [pushRun]
theorem pushRun_new (l : List (Nat × Nat)) (v c n : Nat) (h : v ≠ n) : pushRun (l ++ [(v, c)]) n = l ++ [(v, c)] ++ [(n, 1)] := by simp [pushRun, h]
theorem packs_next {l : List Nat} {k n : Nat} (h : l[k]? = some n) : packs (l.take (k + 1)) = pushRun (packs (l.take k)) n := by
  rw [List.take_add_one, h]; simp [packs]
theorem runs_cases (rs : List (Nat × Nat)) : rs = [] ∨ ∃ l v c, rs = l ++ [(v, c)] := by
  rcases List.eq_nil_or_concat rs with h | ⟨l, ⟨v, c⟩, h⟩
  · exact .inl h
  · exact .inr ⟨l, v, c, by rw [h, List.concat_eq_append]⟩
/-- How long, and how great. -/
def RunsIn (m : Nat) (rs : List (Nat × Nat)) : Prop := rs.length ≤ m ∧ ∀ p ∈ rs, 1 ≤ p.2 ∧ p.2 ≤ m
theorem runsIn_push {m : Nat} {rs : List (Nat × Nat)} (h : RunsIn m rs) (n : Nat) : RunsIn (m + 1) (pushRun rs n) := by
  rcases runs_cases rs with rfl | ⟨l, v, c, rfl⟩
  · rw [pushRun_nil]; refine ⟨by simp, fun p hp => ?_⟩
    simp at hp; subst hp; simp
  · obtain ⟨h1, h2⟩ := h
    simp only [List.length_append, List.length_cons, List.length_nil] at h1
    have hc := h2 (v, c) (by simp)
    by_cases e : v = n
    · subst e
      rw [pushRun_same]
      refine ⟨by simp; omega, fun p hp => ?_⟩
      rcases List.mem_append.1 hp with hp | hp
      · have := h2 p (by simp [hp]); omega
      · simp at hp; subst hp; simp at hc ⊢; omega
    · rw [pushRun_new _ _ _ _ e]
      refine ⟨by simp; omega, fun p hp => ?_⟩
      rcases List.mem_append.1 hp with hp | hp
      · have := h2 p hp; omega
      · simp at hp; subst hp; simp
theorem packs_in (l : List Nat) : RunsIn l.length (packs l) := by
  suffices h : ∀ (l : List Nat) m rs, RunsIn m rs → RunsIn (m + l.length) (l.foldl pushRun rs) by
    have := h l 0 [] ⟨by simp, fun p hp => by simp at hp⟩
    rwa [Nat.zero_add] at this
  intro l
  induction l with
  | nil => intro m rs h; exact h
  | cons n l ih =>
    intro m rs h
    have := ih (m + 1) _ (runsIn_push h n)
    simp only [List.length_cons, List.foldl_cons]
    rwa [show m + (l.length + 1) = m + 1 + l.length by omega]
theorem Try.infoRun : (Try.prog.info? 36).map (fun i => (i.zero, i.size, i.bytes)) = some (some (.agg #[.int .u64 0, .int .u64 0]), 2, 16) := by kernel_rfl
set_option maxHeartbeats 1000000 in
theorem runsPack (v : Value) (l : List Nat) (w : World) (h : SeqAt w v (cells64 l)) (hl : l.length ≤ 1099511627776) (hm : ∀ n ∈ l, n < M64) :
    Calls Try.prog 10 #[v] w fun e w' => ∃ v', e = .returned v' ∧ w'.ownsRow w.heap.size 36 2 v' (packs l).length (cells2 (packs l)) ∧ Below w.heap.size w w' := by
  have h0 := h
  obtain ⟨A, c, rfl, hc1, hc2, _⟩ := h
  have hcl : (cells64 l).length = l.length := by simp [cells64]
  rw [hcl] at hc1 h0 ⊢
  unfold maxLen at hc2
  have HL := Lib.hid hcl
  clear hcl
  go_enter Try.func10, Try.ntmps10
  go_wp2
  go_loopw [3, 9] (fun t c wr => ∃ k : Nat, k ≤ l.length ∧ c = .int .i64 k ∧ wr.ownsRow w.heap.size 36 2 t (packs (l.take k)).length (cells2 (packs (l.take k))) ∧ Below w.heap.size w wr)
    (fun _ c _ => l.length - (intOf c).toNat)
  case atStart => exact ⟨0, by omega, rfl, World.ownsRow_nil _ _ _ _, Below.refl _ _⟩
  case round =>
    obtain ⟨k, hk, rfl, ho, hb⟩ := hrel
    by_cases hlt : k < l.length
    · have hki : (k : Int) < (l.length : Int) := by omega
      have hg : l[k]? = some l[k] := List.getElem?_eq_getElem hlt
      obtain ⟨b, off, rfl, _, hcell⟩ := h0.get hb (cells64_get hg)
      have hnx := packs_next hg
      have hin := packs_in (l.take k)
      rw [List.length_take, Nat.min_eq_left hk] at hin
      have hn := hm _ (List.getElem_mem hlt)
      generalize l[k] = n at *
      generalize packs (l.take k) = rs at *
      unfold M64 at hn
      rcases runs_cases rs with rfl | ⟨d, x, y, rfl⟩
      · rw [pushRun_nil] at hnx
        have HNX := Lib.hid hnx
        have HO := Lib.hid ho
        have hbs := hb.size
        obtain ⟨A2, cp2, hv2, _⟩ := (SeqS.of_owns ho).form
        rw [hv2] at HO
        rw [hv2]
        · clear hnx ho hin h0 hg hv2
          go_wp2_with (at_builtin; refine append_oneS wr #[.int .u64 n, .int .u64 0] 2 rfl (.tmp 27) (.tmp 30) 24 rfl w.heap.size 36 _ 16 Try.underlying24 Try.infoRun rfl (by omega) rfl (by simp [Value.oneCell']) _ _ _ rfl HO.out rfl (by unfold maxLen; simp) (by simp) hbs ?_)
          intro v' w1 ho1 hb1 _
          obtain ⟨g, cap, hv, hg1, hg2, hc3, hc4⟩ := owns_openS ho1 (by omega)
          rw [hv]
          rw [hv] at ho1
          obtain ⟨c1, c2, c3, c4⟩ := own_last (d := []) (x := n) (y := 0) ho1 rfl
          have HS := Lib.hid (c4 1)
          have hbn := (hb.trans hb1).setCell (p := ⟨g, 1, none⟩) hg1 (.int .u64 ((1 : Nat) : Int))
          have HBN := Lib.hid hbn
          clear hv c4 ho1 hbn hb
          simp only [List.length_nil, Nat.zero_mul, Nat.zero_add] at c1 c2 c3
          go_wp2
          go_roundw
          case rel => exact ⟨k + 1, by omega, by go_num, by rw [HNX.out]; exact HS.out, HBN.out⟩
          case measure => simp [intOf]; omega
      · have HO := Lib.hid ho
        have hbs := hb.size
        have hlen : (d ++ [(x, y)]).length = d.length + 1 := by simp
        rw [hlen] at ho
        obtain ⟨g, cap, hv, hg1, hg2, hc3, hc4⟩ := owns_openS ho (by omega)
        rw [hv] at ho
        rw [hv]
        obtain ⟨c1, c2, c3, c4⟩ := own_last ho rfl
        have hdl := hin.1
        have hy := hin.2 (x, y) (by simp)
        simp only at hy
        rw [hlen] at hdl
        have hli : ((d.length + 1 : Nat) : Int) - 1 = d.length := by omega
        clear hin h0 hg
        by_cases hxn : x = n
        · subst hxn
          rw [pushRun_same] at hnx
          have HNX := Lib.hid hnx
          have HS := Lib.hid (c4 (y + 1))
          have hbn := hb.setCell (p := ⟨g, d.length * 2 + 1, none⟩) hg1 (.int .u64 ((y + 1 : Nat) : Int))
          have HBN := Lib.hid hbn
          have e1 : ((x : Int) != (x : Int)) = false := by simp
          clear hnx c4 hbn ho hb HO hv hlen
          go_wp2
          go_roundw
          case rel => exact ⟨k + 1, by omega, by go_num, by rw [HNX.out, show (d ++ [(x, y + 1)]).length = d.length + 1 by simp]; exact HS.out, HBN.out⟩
          case measure => simp [intOf]; omega
        · rw [pushRun_new _ _ _ _ hxn] at hnx
          have HNX := Lib.hid hnx
          have HO2 := Lib.hid ho
          have e1 : ((x : Int) != (n : Int)) = true := by simp; omega
          have hlen2 : (d ++ [(x, y)] ++ [(n, 1)]).length = d.length + 1 + 1 := by simp
          have HLEN2 := Lib.hid hlen2
          clear hnx c4 ho HO hv hlen c2 c3 hlen2
          go_wp2_with (at_builtin; refine append_oneS wr #[.int .u64 n, .int .u64 0] 2 rfl (.tmp 27) (.tmp 30) 24 rfl w.heap.size 36 _ 16 Try.underlying24 Try.infoRun rfl (by omega) rfl (by simp [Value.oneCell']) _ _ _ rfl HO2.out rfl (by unfold maxLen; omega) (by omega) hbs ?_)
          intro v' w1 ho1 hb1 _
          obtain ⟨g2, cap2, hv, hg3, hg4, hc5, hc6⟩ := owns_openS ho1 (by omega)
          rw [hv]
          rw [hv] at ho1
          have ho2 : w1.ownsRow w.heap.size 36 2 (.slice (some ⟨g2, 0, none⟩) (d.length + 1 + 1) cap2) (d.length + 1 + 1) (cells2 ((d ++ [(x, y)]) ++ [(n, 0)])) := by
            rw [cells2_append (d ++ [(x, y)])]; exact ho1
          obtain ⟨c7, c8, c9, c10⟩ := own_last ho2 (by simp)
          have HS := Lib.hid (c10 1)
          have hbn := (hb.trans hb1).setCell (p := ⟨g2, (d ++ [(x, y)]).length * 2 + 1, none⟩) hg3 (.int .u64 ((1 : Nat) : Int))
          have HBN := Lib.hid hbn
          rw [show (d ++ [(x, y)]).length = d.length + 1 by simp] at c7 c8 c9 HBN HS
          clear hv c10 ho1 ho2 hbn hb hb1 c1
          go_wp2
          go_roundw
          case rel => exact ⟨k + 1, by omega, by go_num, by rw [HNX.out, HLEN2.out]; exact HS.out, HBN.out⟩
          case measure => simp [intOf]; omega
    · obtain rfl : k = l.length := by omega
      rw [List.take_of_length_le (Nat.le_refl _)] at ho
      go_wp2
      go_ret
      exact ⟨_, rfl, ho, hb⟩
end Go.Proofs.Ytjkgckdldmhgjaa
