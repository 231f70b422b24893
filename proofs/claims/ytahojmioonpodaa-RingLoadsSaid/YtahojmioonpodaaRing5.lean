import Derived.Test.YtahojmioonpodaaRing4
import Derived.Deep.MidRow
import Derived.StillTailTactics
namespace Go.Proofs.Ytahojmioonpodaa
open Go.RowKit
set_option linter.unusedVariables false
set_option linter.unusedSimpArgs false
theorem still_load_mid {P : Program} {o : Oper} {a : Act} {w : World} {next : Act → Prop} (ty : TypeId) (x : Operand) (ho : o.op = .load ty x) (b off : Nat) (hx : a.eval x = .pointer (some ⟨b, off, none⟩)) (v : Value)
    (hl : (loadVar ty ⟨b, off, none⟩).run P w = .ok v w) (hn : next (a.put o.dst v)) : o.still P a w next := by
  unfold Oper.still execOp
  simp only [ho, hx, Instr.loadAt, Instr.sureAddr, Sem.run_bind, Sem.run_pure, Result.andThen_ok, hl]
  exact ⟨rfl, hn⟩
theorem still_build {P : Program} {o : Oper} {a : Act} {w : World} {next : Act → Prop} (ty : TypeId) (x y : Operand) (ho : o.op = .build ty #[(0, x), (1, y)]) (u v z : Value) (hx : a.eval x = u) (hy : a.eval y = v)
    (hl : (Instr.build ty #[(0, u), (1, v)]).run P w = .ok z w) (hn : next (a.put o.dst z)) : o.still P a w next := by
  unfold Oper.still execOp
  simp only [ho, Sem.run_bind, Sem.run_pure, Result.andThen_ok]
  simp [hx, hy, hl]
  exact ⟨rfl, hn⟩
def newR (cap rd : Nat) : Rg := ⟨cap, rd, 0, [0, 0, 0, 0, 0, 0, 0, 0], false, newS cap⟩
theorem newR_ok {cap rd : Nat} (h1 : 1 ≤ cap) (h2 : cap ≤ 64) (h3 : 1 ≤ rd) (h4 : rd ≤ 8) : RgOk (newR cap rd) :=
  ⟨rfl, newS_ok h1 h2 h3 h4, (newS_length cap).symm, by unfold newR; simp only; omega, fun h hh => by unfold newR at hh; simp at hh; subst hh; unfold newR; exact Nat.le_refl _⟩
theorem slUnder : Try.prog.underlying 81 = some (.struct (Try.prog.fieldsOf 81)) := by kernel_rfl
theorem slInfo : (Try.prog.info? 81).map (·.size) = some 194 := by kernel_rfl
/-- May there be a ring of this kind? -/
def mayB (k c r : Int) : Bool := decide (1 ≤ c ∧ c ≤ 64 ∧ (k = 1 ∧ r = 1 ∨ k = 2 ∧ 1 ≤ r ∧ r ≤ 8))
set_option maxHeartbeats 2000000 in
set_option maxRecDepth 100000 in
theorem rgNew (k : Int) (cap rd : Nat) (w : World) (h1 : 1 ≤ cap) (h2 : cap ≤ 64) (h3 : 1 ≤ rd) (h4 : rd ≤ 8) (hk : k = 1 ∧ rd = 1 ∨ k = 2) :
    Calls Try.prog 11 #[.agg #[.int .i64 k, .int .i64 cap, .int .i64 rd]] w fun e w' => ∃ g, e = .returned (.tuple #[.pointer (some ⟨g, 0, none⟩), .int .i64 0]) ∧ w.heap.size ≤ g ∧
      RgAt w' g 83 [] [] (newR cap rd) ∧ Below w.heap.size w w' := by
  have hwc : IntKind.u64.wrap (cap : Int) = (cap : Int) := by rw [IntKind.wrap_u64]; omega
  have hb0 := (Below.refl w.heap.size w).alloc (Nat.le_refl _) (.cells #[.int .i64 k, .int .i64 (cap : Int), .int .i64 (rd : Int)] 23)
  have li := Lies.made w 23 #[.int .i64 k, .int .i64 (cap : Int), .int .i64 (rd : Int)]
  have hN := slotsNew cap rd (w.alloc (.cells #[.int .i64 k, .int .i64 (cap : Int), .int .i64 (rd : Int)] 23)) h1 h2 h3 h4
  have HB0 := Lib.hid hb0
  have LI := Lib.hid li
  have HN := Lib.hid hN
  clear hb0 li hN
  have main : ∀ w1, Below (w.alloc (.cells #[.int .i64 k, .int .i64 (cap : Int), .int .i64 (rd : Int)] 23)).heap.size (w.alloc (.cells #[.int .i64 k, .int .i64 (cap : Int), .int .i64 (rd : Int)] 23)) w1 →
      SlAt w1 (w.heap.size + 1) 81 [] [] rd (newS cap) →
      Hid (w1.cell? ⟨w.heap.size, 1, none⟩ = some (.int .i64 (cap : Int)) ∧ w1.cell? ⟨w.heap.size, 2, none⟩ = some (.int .i64 (rd : Int)) ∧ Below w.heap.size w w1 ∧ ∃ cs : List Value, cs.length = 194 ∧
        (∀ n, (loadVar 81 ⟨w.heap.size + 1, 0, none⟩).run Try.prog (w1.drewN n) = .ok (.agg cs.toArray) (w1.drewN n)) ∧
        ∀ w2, Lies w2 w1.heap.size 83 (cuF cap rd 0 [0, 0, 0, 0, 0, 0, 0, 0] false ++ cs).toArray → RgAt w2 w1.heap.size 83 [] [] (newR cap rd)) := by
    intro w1 hb hs
    have l1 := LI.out.below hb (by simp)
    obtain ⟨M, m1, m2, m3⟩ := id hs
    have hcl : (slObj rd (newS cap) M).length = 194 := by rw [slObj_length, m1]
    rw [List.nil_append, List.append_nil] at m3
    refine ⟨(l1.cell 1).trans rfl, (l1.cell 2).trans rfl, HB0.out.trans (hb.mono HB0.out.size), slObj rd (newS cap) M, hcl, fun n => ?_, fun w2 h2' => ⟨newR_ok h1 h2 h3 h4, M, m1, m2, ?_⟩⟩
    · refine run_loadVar_mid (w1.drewN n) (w.heap.size + 1) 0 _ _ _ (fun j v hv => ?_) slUnder rfl (by rw [hcl]; exact slInfo)
      have := m3.cell j
      rw [List.getElem?_toArray, hv] at this
      rw [Nat.zero_add]; exact this
    · rw [List.nil_append, List.append_nil]
      exact h2'
  have HM := Lib.hid main
  clear main
  have z1 : (w.alloc (.cells #[.int .i64 k, .int .i64 (cap : Int), .int .i64 (rd : Int)] 23)).heap.size = w.heap.size + 1 := by simp
  rw [z1] at HN HM
  have hbd := fun (cs : List Value) (hcs : cs.length = 194) w => ring_build w cap rd cs hcs
  have HBD : Hid (∀ (cs : List Value), cs.length = 194 → ∀ w, (Instr.build 83 #[(0, .agg #[.int .u64 (cap : Int), .int .i64 (rd : Int), .int .u64 0, .int .u64 0, .int .u64 0, .int .u64 0, .int .u64 0, .int .u64 0, .int .u64 0, .int .u64 0, .int .u64 0, .bool false]), (1, .agg cs.toArray)]).run Try.prog w = .ok (.agg (cuF cap rd 0 [0, 0, 0, 0, 0, 0, 0, 0] false ++ cs).toArray) w) := hbd
  clear hbd z1
  rcases hk with ⟨rfl, rfl⟩ | rfl
  · go_enter Try.func11, Try.ntmps11
    go_wp2_with fail
    refine HN.out.mono ?_
    rintro e w1 ⟨rfl, hs, hb⟩
    obtain ⟨k0, k1, hbw, cs, hcs, hld, hfin⟩ := (HM.out w1 hb hs).out
    have hbd := HBD.out cs hcs
    have hld1 : (loadVar 81 ⟨w.heap.size + 1, 0, none⟩).run Try.prog w1.drew = .ok (.agg cs.toArray) w1.drew := hld 1
    have HFIN := Lib.hid hfin
    have HBW := Lib.hid hbw
    clear hs hb hld hfin hbw HM HBD HN LI HB0
    go_wp2
    refine wp_region_still_tail 10 (by kernel_rfl) (by kernel_rfl) ?_
    simp only [List.take_succ_cons, List.take_zero, List.drop_succ_cons, List.drop_zero]
    change wpStill _ _ w1.drew (fun a' => wpList _ _ _ _ a' w1.drew) _ _
    have HF2 : Hid (∀ w2, Lies w2 w1.drew.heap.size 83 (cuF cap 1 0 [0, 0, 0, 0, 0, 0, 0, 0] false ++ cs).toArray → RgAt w2 w1.drew.heap.size 83 [] [] (newR cap 1)) := HFIN
    have HB2 : Hid (Below w.heap.size w w1.drew) := below_drewN HBW.out 1
    have k0 : w1.drew.cell? ⟨w.heap.size, 1, none⟩ = some (.int .i64 (cap : Int)) := k0
    have k1 : w1.drew.cell? ⟨w.heap.size, 2, none⟩ = some (.int .i64 ((1 : Nat) : Int)) := k1
    clear HFIN HBW
    generalize w1.drew = w2 at *
    iterate 8 still_step
    refine wpStill_step (fun K hK => ?_)
    rw [if_pos (by kernel_rfl)]
    refine still_load_mid _ _ rfl _ _ rfl _ hld1 (hK _ ?_)
    clear hK K
    refine wpStill_step (fun K hK => ?_)
    rw [if_pos (by kernel_rfl)]
    refine still_build _ _ _ rfl _ _ _ rfl rfl (hbd w2) (hK _ ?_)
    clear hK K
    refine wpStill_nil ?_
    clear hbd hld1 k0 k1
    generalize (cuF cap 1 0 [0, 0, 0, 0, 0, 0, 0, 0] false ++ cs).toArray = arr at *
    generalize cs.toArray = arr2 at *
    try simp only [Act.put, List.setIfInBounds_toArray, List.set_cons_zero, List.set_cons_succ]
    go_wp2
    go_ret2
    exact ⟨_, rfl, HB2.out.size, HF2.out _ (Lies.made w2 _ _), HB2.out.alloc HB2.out.size _⟩
  · go_enter Try.func11, Try.ntmps11
    go_wp2_with fail
    refine HN.out.mono ?_
    rintro e w1 ⟨rfl, hs, hb⟩
    obtain ⟨k0, k1, hbw, cs, hcs, hld, hfin⟩ := (HM.out w1 hb hs).out
    have hbd := HBD.out cs hcs
    have hld1 : (loadVar 81 ⟨w.heap.size + 1, 0, none⟩).run Try.prog w1.drew = .ok (.agg cs.toArray) w1.drew := hld 1
    have HFIN := Lib.hid hfin
    have HBW := Lib.hid hbw
    clear hs hb hld hfin hbw HM HBD HN LI HB0
    go_wp2
    refine wp_region_still_tail 10 (by kernel_rfl) (by kernel_rfl) ?_
    simp only [List.take_succ_cons, List.take_zero, List.drop_succ_cons, List.drop_zero]
    change wpStill _ _ w1.drew (fun a' => wpList _ _ _ _ a' w1.drew) _ _
    have HF2 : Hid (∀ w2, Lies w2 w1.drew.heap.size 83 (cuF cap rd 0 [0, 0, 0, 0, 0, 0, 0, 0] false ++ cs).toArray → RgAt w2 w1.drew.heap.size 83 [] [] (newR cap rd)) := HFIN
    have HB2 : Hid (Below w.heap.size w w1.drew) := below_drewN HBW.out 1
    have k0 : w1.drew.cell? ⟨w.heap.size, 1, none⟩ = some (.int .i64 (cap : Int)) := k0
    have k1 : w1.drew.cell? ⟨w.heap.size, 2, none⟩ = some (.int .i64 ((rd : Nat) : Int)) := k1
    clear HFIN HBW
    generalize w1.drew = w2 at *
    iterate 8 still_step
    refine wpStill_step (fun K hK => ?_)
    rw [if_pos (by kernel_rfl)]
    refine still_load_mid _ _ rfl _ _ rfl _ hld1 (hK _ ?_)
    clear hK K
    refine wpStill_step (fun K hK => ?_)
    rw [if_pos (by kernel_rfl)]
    refine still_build _ _ _ rfl _ _ _ rfl rfl (hbd w2) (hK _ ?_)
    clear hK K
    refine wpStill_nil ?_
    clear hbd hld1 k0 k1
    generalize (cuF cap rd 0 [0, 0, 0, 0, 0, 0, 0, 0] false ++ cs).toArray = arr at *
    generalize cs.toArray = arr2 at *
    try simp only [Act.put, List.setIfInBounds_toArray, List.set_cons_zero, List.set_cons_succ]
    go_wp2
    go_ret2
    exact ⟨_, rfl, HB2.out.size, HF2.out _ (Lies.made w2 _ _), HB2.out.alloc HB2.out.size _⟩
theorem rgNewNo (k c r : Int) (w : World) (h : mayB k c r = false) :
    Calls Try.prog 11 #[.agg #[.int .i64 k, .int .i64 c, .int .i64 r]] w fun e w' => e = .returned (.tuple #[.pointer none, .int .i64 1]) ∧ Below w.heap.size w w' := by
  have h := of_decide_eq_false h
  have hb0 := (Below.refl w.heap.size w).alloc (Nat.le_refl _) (.cells #[.int .i64 k, .int .i64 c, .int .i64 r] 23)
  by_cases k2 : k = 2
  · have e1 : (k != 2) = false := by simp [k2]
    have hN := fun w => slotsNewNo c r w (fun hh => h ⟨hh.1, hh.2.1, .inr ⟨k2, hh.2.2.1, hh.2.2.2⟩⟩)
    have HN := Lib.hid hN
    subst k2
    clear h hN
    go_enter Try.func11, Try.ntmps11
    go_wp2_with fail
    refine (HN.out _).mono ?_
    rintro e w' ⟨rfl, rfl⟩
    go_wp2
    go_ret2
    exact ⟨rfl, hb0⟩
  have e1 : (k != 2) = true := by rw [bne_iff_ne]; exact k2
  by_cases k1 : k = 1
  · by_cases r1 : r = 1
    · subst k1 r1
      have hN := fun w => slotsNewNo c 1 w (fun hh => h ⟨hh.1, hh.2.1, .inl ⟨rfl, rfl⟩⟩)
      have HN := Lib.hid hN
      clear h hN k2
      go_enter Try.func11, Try.ntmps11
      go_wp2_with fail
      refine (HN.out _).mono ?_
      rintro e w' ⟨rfl, rfl⟩
      go_wp2
      go_ret2
      exact ⟨rfl, hb0⟩
    · have e3 : (r != 1) = true := by rw [bne_iff_ne]; exact r1
      subst k1
      clear h k2 r1
      go_enter Try.func11, Try.ntmps11
      go_wp2
      go_ret2
      exact ⟨rfl, hb0⟩
  · have e2 : (k != 1) = true := by rw [bne_iff_ne]; exact k1
    clear h k2 k1
    go_enter Try.func11, Try.ntmps11
    go_wp2
    go_ret2
    exact ⟨rfl, hb0⟩
end Go.Proofs.Ytahojmioonpodaa
