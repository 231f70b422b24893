import Derived.Test.YtjkgckdldmhgjaaRefpack
import Derived.Deep.RegionHeld3
namespace Go.Proofs.Ytjkgckdldmhgjaa
open Go.RowKit
set_option linter.unusedVariables false
set_option linter.unusedSimpArgs false
def lastIs (rs : List (Nat × Nat)) (x : Nat) : Bool := match rs.getLast? with
  | some p => decide (p.1 = x)
  | none => false
theorem lastIs_nil (x : Nat) : lastIs [] x = false := rfl
theorem lastIs_snoc (d : List (Nat × Nat)) (a c x : Nat) : lastIs (d ++ [(a, c)]) x = decide (a = x) := by simp [lastIs]
def fitE (bef : List (Nat × Nat)) (x c room : Nat) : Nat := if c = 0 then 3 else if lastIs bef x = true then 3 else if room < c then 4 else 0
def spreads (rs : List (Nat × Nat)) : List Nat := rs.flatMap fun p => List.replicate p.2 p.1
theorem spreads_append (a b : List (Nat × Nat)) : spreads (a ++ b) = spreads a ++ spreads b := by simp [spreads]
theorem spreads_one (x c : Nat) : spreads [(x, c)] = List.replicate c x := by simp [spreads]
theorem spreads_take {rs : List (Nat × Nat)} {k : Nat} {p : Nat × Nat} (h : rs[k]? = some p) : spreads (rs.take (k + 1)) = spreads (rs.take k) ++ List.replicate p.2 p.1 := by
  rw [List.take_add_one, h, spreads_append]; simp [spreads]
theorem runsAgain (v : Value) (rs : List (Nat × Nat)) (x : Nat) (w : World) (h : SeqS w 2 v rs.length (cells2 rs)) :
    Calls Try.prog 31 #[v, .int .u64 x] w fun e w' => e = .returned (.bool (lastIs rs x)) ∧ w = w' := by
  rcases runs_cases rs with rfl | ⟨d, a, c, rfl⟩
  · obtain ⟨A, cp, rfl, _⟩ := h.form
    rw [lastIs_nil]
    clear h
    go_enter Try.func31, Try.ntmps31
    go_wp2
    go_ret
    exact ⟨rfl, rfl⟩
  · rw [lastIs_snoc]
    have hl : (d ++ [(a, c)]).length = d.length + 1 := by simp
    rw [hl] at h
    obtain ⟨b, off, cp, rfl, h1, h2, hc⟩ := h.elem (i := d.length) (by omega) (by omega)
    obtain ⟨g1, g2⟩ := cells2_get (l := d ++ [(a, c)]) (i := d.length) (p := (a, c)) (by simp)
    have c1 := hc 0 _ (by omega) g1
    rw [Nat.add_zero] at c1
    unfold maxLen at h2
    have hb : ((a : Int) == (x : Int)) = decide (a = x) := by
      by_cases e : a = x
      · subst e; simp
      · rw [decide_eq_false e]; simp; omega
    have HB := Lib.hid hb
    clear hl h hc g1 g2 hb
    go_enter Try.func31, Try.ntmps31
    go_wp2
    go_ret
    exact ⟨ret_bool HB.out, rfl⟩
theorem runsFits (v : Value) (rs : List (Nat × Nat)) (x c room : Nat) (w : World) (h : SeqS w 2 v rs.length (cells2 rs)) (hc : c < M64) (hr : room < M64) :
    Calls Try.prog 22 #[v, .agg #[.int .u64 x, .int .u64 c], .int .u64 room] w fun e w' => e = .returned (.int .i64 (fitE rs x c room)) ∧ Below w.heap.size w w' := by
  have hbel : Below w.heap.size w (w.alloc (.cells #[.int .u64 x, .int .u64 c] 36)) := (Below.refl _ _).alloc (Nat.le_refl _) _
  have ha := fun w' (hb : Below w.heap.size w w') => runsAgain v rs x w' (h.later hb)
  have HA := Lib.hid ha
  unfold M64 at hc hr
  clear ha h
  by_cases h0 : c = 0
  · subst h0
    have e1 : fitE rs x 0 room = 3 := rfl
    rw [e1]
    clear e1
    go_enter Try.func22, Try.ntmps22
    go_wp2
    go_ret
    exact ⟨rfl, hbel⟩
  · have e0 : ((c : Int) == 0) = false := by simp; omega
    cases hla : lastIs rs x
    · have e1 : fitE rs x c room = if room < c then 4 else 0 := by unfold fitE; rw [if_neg h0, hla]; rfl
      rw [hla] at HA
      by_cases hrc : room < c
      · rw [if_pos hrc] at e1
        rw [e1]
        have e2 : decide (room < c) = true := by simpa using hrc
        clear e1 hla h0
        go_enter Try.func22, Try.ntmps22
        go_wp2_with fail
        refine (HA.out _ hbel).mono ?_
        rintro e w' ⟨rfl, rfl⟩
        go_wp2
        go_ret
        exact ⟨rfl, hbel⟩
      · rw [if_neg hrc] at e1
        rw [e1]
        have e2 : decide (room < c) = false := by simpa using hrc
        clear e1 hla h0
        go_enter Try.func22, Try.ntmps22
        go_wp2_with fail
        refine (HA.out _ hbel).mono ?_
        rintro e w' ⟨rfl, rfl⟩
        go_wp2
        go_ret
        exact ⟨rfl, hbel⟩
    · have e1 : fitE rs x c room = 3 := by unfold fitE; rw [if_neg h0, hla]; rfl
      rw [hla] at HA
      rw [e1]
      clear e1 hla h0
      go_enter Try.func22, Try.ntmps22
      go_wp2_with fail
      refine (HA.out _ hbel).mono ?_
      rintro e w' ⟨rfl, rfl⟩
      go_wp2
      go_ret
      exact ⟨rfl, hbel⟩
set_option maxHeartbeats 1000000 in
theorem runsSpread (v : Value) (rs : List (Nat × Nat)) (w : World) (h : SeqS w 2 v rs.length (cells2 rs)) (hl : (spreads rs).length ≤ 1099511627776) (hm : ∀ p ∈ rs, p.1 < M64 ∧ p.2 < M64) :
    Calls Try.prog 23 #[v] w fun e w' => ∃ v', e = .returned v' ∧ w'.ownsRow w.heap.size 34 1 v' (spreads rs).length (cells64 (spreads rs)) ∧ Below w.heap.size w w' := by
  obtain ⟨A, cp, rfl, hc1, hc2, _⟩ := h.form
  unfold maxLen at hc2
  have H := Lib.hid h
  clear h
  go_enter Try.func23, Try.ntmps23
  go_wp2
  go_loopw [3, 8] (fun t c wr => ∃ k : Nat, k ≤ rs.length ∧ c = .int .i64 k ∧ wr.ownsRow w.heap.size 34 1 t (spreads (rs.take k)).length (cells64 (spreads (rs.take k))) ∧ Below w.heap.size w wr)
    (fun _ c _ => rs.length - (intOf c).toNat)
  case atStart => exact ⟨0, by omega, rfl, World.ownsRow_nil _ _ _ _, Below.refl _ _⟩
  case round =>
    obtain ⟨k, hk, rfl, ho, hb⟩ := hrel
    by_cases hlt : k < rs.length
    · have hki : (k : Int) < (rs.length : Int) := by omega
      have hg : rs[k]? = some rs[k] := List.getElem?_eq_getElem hlt
      obtain ⟨b, off, cp', hA, _, _, hcell⟩ := (H.out.later hb).elem (i := k) (by omega) (by omega)
      simp only [Value.slice.injEq] at hA
      obtain ⟨rfl, _, rfl⟩ := hA
      obtain ⟨g1, g2⟩ := cells2_get hg
      have c1 := hcell 0 _ (by omega) g1
      have c2 := hcell 1 _ (by omega) g2
      rw [Nat.add_zero] at c1
      have hnx := spreads_take hg
      have hle : (spreads (rs.take k)).length + rs[k].2 ≤ (spreads rs).length := by
        have e2 : rs = rs.take (k + 1) ++ rs.drop (k + 1) := (List.take_append_drop _ _).symm
        have e3 : (spreads rs).length = (spreads (rs.take (k + 1))).length + (spreads (rs.drop (k + 1))).length := by
          conv => lhs; rw [e2, spreads_append]
          simp
        rw [hnx, List.length_append, List.length_replicate] at e3
        omega
      have hpm := hm _ (List.getElem_mem hlt)
      generalize rs[k] = p at *
      obtain ⟨x, c⟩ := p
      simp only at c1 c2 hnx hle hpm
      unfold M64 at hpm
      generalize spreads (rs.take k) = d at *
      have hbs := hb.size
      have HNX := Lib.hid hnx
      clear hnx hcell g1 g2 hg
      have hli := Lies.made wr 36 #[.int .u64 (x : Int), .int .u64 (c : Int)]
      have hoa := ho.alloc (.cells #[.int .u64 (x : Int), .int .u64 (c : Int)] 36)
      have hba := hb.alloc hbs (.cells #[.int .u64 (x : Int), .int .u64 (c : Int)] 36)
      clear ho hb
      go_wp2
      generalize wr.alloc (.cells #[.int .u64 (x : Int), .int .u64 (c : Int)] 36) = wA at *
      generalize wr.heap.size = g at *
      go_loopw [3, 14] (fun t i wq => ∃ j : Nat, j ≤ c ∧ i = .int .u64 j ∧ wq.ownsRow w.heap.size 34 1 t (d.length + j) (cells64 (d ++ List.replicate j x)) ∧ Lies wq g 36 #[.int .u64 (x : Int), .int .u64 (c : Int)] ∧ Below w.heap.size w wq)
        (fun _ i _ => c - (intOf i).toNat)
      case atStart => exact ⟨0, by omega, rfl, by simpa using hoa, hli, hba⟩
      case round =>
        clear hoa hli hba
        obtain ⟨j, hj, rfl, ho, hli, hb⟩ := hrel
        have hbq := hb.size
        by_cases hjc : j < c
        · have d1 := hli.cell 0
          have d2 := hli.cell 1
          simp at d1 d2
          have hne := own_ne ho hli (by decide)
          have HO := Lib.hid ho
          have HLI := Lib.hid hli
          clear ho hli
          go_wp2_with (at_builtin; refine append_one _ (.int .u64 x) rfl (.tmp 16) (.tmp 19) 22 rfl w.heap.size 34 _ _ Try.underlying22 Try.infoU64 rfl rfl _ _ _ rfl HO.out rfl (by unfold maxLen; omega) (by omega) hbq ?_)
          intro v' w1 ho1 hb1 hgr
          have hl1 := (HLI.out.alloc (.cells #[Value.int .u64 (x : Int)] 34)).kept (Kept.of_grown hgr) hne
          rw [cells64_push, List.append_assoc, ← List.replicate_succ'] at ho1
          have HO1 := Lib.hid ho1
          have HL1 := Lib.hid hl1
          have HB1 := Lib.hid (hb.trans hb1)
          clear ho1 hl1 hb hb1 hgr
          go_wp2
          go_roundw
          case rel => exact ⟨j + 1, by omega, by go_num, HO1.out, HL1.out, HB1.out⟩
          case measure => simp [intOf]; omega
        · obtain rfl : j = c := by omega
          rw [← HNX.out, show d.length + j = (spreads (rs.take (k + 1))).length by rw [HNX.out]; simp] at ho
          have HO := Lib.hid ho
          clear ho hli
          go_wp2
          go_roundw
          case rel => exact ⟨k + 1, by omega, by go_num, HO.out, hb⟩
          case measure => simp [intOf]; omega
    · obtain rfl : k = rs.length := by omega
      rw [List.take_of_length_le (Nat.le_refl _)] at ho
      go_wp2
      go_ret
      exact ⟨_, rfl, ho, hb⟩
end Go.Proofs.Ytjkgckdldmhgjaa
