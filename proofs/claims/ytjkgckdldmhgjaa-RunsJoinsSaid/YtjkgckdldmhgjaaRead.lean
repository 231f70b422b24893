import Derived.Test.YtjkgckdldmhgjaaNext
namespace Go.Proofs.Ytjkgckdldmhgjaa
open Go.RowKit
set_option linter.unusedVariables false
set_option linter.unusedSimpArgs false
/-- So many runs, one behind the other, behind others: the runs, what is wrong, the place behind. -/
def readR : Nat → ByteArray → Nat → List (Nat × Nat) → Nat → List (Nat × Nat) × Nat × Nat
  | 0, _, p, bef, _ => (bef, 0, p)
  | n + 1, s, p, bef, room =>
    if (nextR s p bef room).2.1 = 0 then readR n s (nextR s p bef room).2.2 (bef ++ [(nextR s p bef room).1]) (room - (nextR s p bef room).1.2)
    else (bef, (nextR s p bef room).2.1, (nextR s p bef room).2.2)
def redE (s : ByteArray) (p : Nat) (most : Int) : Nat :=
  if most < 0 then 1 else if (rd (restOf s p)).2.1 ≠ 0 then (rd (restOf s p)).2.1 else (readR (rd (restOf s p)).1 s (p + (rd (restOf s p)).2.2) [] most.toNat).2.1
def redAt (s : ByteArray) (p : Nat) (most : Int) : Nat :=
  if most < 0 then p else if (rd (restOf s p)).2.1 ≠ 0 then p + (rd (restOf s p)).2.2 else (readR (rd (restOf s p)).1 s (p + (rd (restOf s p)).2.2) [] most.toNat).2.2
def redOf (s : ByteArray) (p : Nat) (most : Int) : List Nat := if redE s p most = 0 then spreads (readR (rd (restOf s p)).1 s (p + (rd (restOf s p)).2.2) [] most.toNat).1 else []
theorem nextR_ok {s : ByteArray} {p : Nat} {bef : List (Nat × Nat)} {room : Nat} (h : (nextR s p bef room).2.1 = 0) :
    1 ≤ (nextR s p bef room).1.2 ∧ (nextR s p bef room).1.2 ≤ room ∧ p + 2 ≤ (nextR s p bef room).2.2 ∧ (nextR s p bef room).1.1 < M64 ∧ lastIs bef (nextR s p bef room).1.1 = false := by
  unfold nextR at h ⊢
  have h1 := rd_ok (restOf s p)
  have h2 := rd_ok (restOf s (p + (rd (restOf s p)).2.2))
  have h3 := rd_bound (restOf s p)
  by_cases e1 : (rd (restOf s p)).2.1 = 0
  · rw [if_neg (by omega)] at h
    rw [if_neg (by omega)]
    generalize rd (restOf s (p + (rd (restOf s p)).2.2)) = b at *
    generalize rd (restOf s p) = a at *
    by_cases e2 : b.2.1 = 0
    · rw [if_neg (by omega)] at h
      rw [if_neg (by omega)]
      simp only at h ⊢
      cases hl : lastIs bef a.1
      · rw [hl, if_neg (by decide)] at h
        by_cases e3 : room ≤ b.1
        · rw [if_pos e3] at h; omega
        · have := h1 e1
          have := h2 e2
          exact ⟨by omega, by omega, by omega, by unfold M64; omega, rfl⟩
      · rw [hl, if_pos rfl] at h; omega
    · rw [if_pos e2] at h; exact absurd h e2
  · rw [if_pos e1] at h; exact absurd h e1
set_option maxHeartbeats 2000000 in
set_option maxRecDepth 100000 in
theorem runsRead (g : Nat) (s : ByteArray) (i : Nat) (most : Int) (w : World) (h : RdAt w g s i) (hs : s.size ≤ 1099511627776) (h1 : most ≤ 1099511627776) (h2 : -9223372036854775808 ≤ most) :
    Calls Try.prog 18 #[.pointer (some ⟨g, 0, none⟩), .int .i64 most] w fun e w' => ∃ v,
    e = .returned (.tuple #[v, .int .i64 (redE s i most : Nat)]) ∧ w'.ownsRow w.heap.size 34 1 v (redOf s i most).length (cells64 (redOf s i most)) ∧ RdAt w' g s (redAt s i most) ∧ Kept (oneRow g) w w' := by
  by_cases hneg : most < 0
  · have hE : redE s i most = 1 := by unfold redE; rw [if_pos hneg]
    have hA : redAt s i most = i := by unfold redAt; rw [if_pos hneg]
    have hO : redOf s i most = [] := by unfold redOf; rw [hE]; rfl
    rw [hE, hA, hO]
    clear hE hA hO
    go_enter Try.func18, Try.ntmps18
    go_wp2
    go_ret2
    exact ⟨_, rfl, World.ownsRow_nil _ _ _ _, h, Kept.refl _ _⟩
  obtain ⟨M, rfl⟩ : ∃ M : Nat, most = M := ⟨most.toNat, by omega⟩
  have e0 : decide ((M : Int) < 0) = false := by simp
  have hM : M ≤ 1099511627776 := by omega
  have hE : redE s i M = if (rd (restOf s i)).2.1 ≠ 0 then (rd (restOf s i)).2.1 else (readR (rd (restOf s i)).1 s (i + (rd (restOf s i)).2.2) [] M).2.1 := by
    unfold redE; rw [if_neg hneg, Int.toNat_natCast]
  have hA : redAt s i M = if (rd (restOf s i)).2.1 ≠ 0 then i + (rd (restOf s i)).2.2 else (readR (rd (restOf s i)).1 s (i + (rd (restOf s i)).2.2) [] M).2.2 := by
    unfold redAt; rw [if_neg hneg, Int.toNat_natCast]
  have hO : redOf s i M = if redE s i M = 0 then spreads (readR (rd (restOf s i)).1 s (i + (rd (restOf s i)).2.2) [] M).1 else [] := by unfold redOf; rw [Int.toNat_natCast]
  have hb := rd_bound (restOf s i)
  have hused := rd_ok (restOf s i)
  have HV := Lib.hid (varintRead g s i w h)
  have hgs := h.1.lt
  generalize redE s i M = E at *
  generalize redAt s i M = P at *
  generalize redOf s i M = O at *
  generalize rd (restOf s i) = r at *
  obtain ⟨n, er, c⟩ := r
  simp only at hb hE hA hO hused
  have HE := Lib.hid hE
  have HA := Lib.hid hA
  have HO := Lib.hid hO
  have HU := Lib.hid hused
  clear hE hA hO hused h1 h2 hneg h
  go_enter Try.func18, Try.ntmps18
  go_wp2_with fail
  refine HV.out.mono ?_
  rintro e w1 ⟨rfl, h1, k1⟩
  by_cases her : er = 0
  · subst her
    have hc1 : 1 ≤ c := HU.out rfl
    have qE := HE.out
    have qA := HA.out
    rw [if_neg (show ¬ (0 : Nat) ≠ 0 by omega)] at qE qA
    clear HE HA
    have HE := Lib.hid qE
    have HA := Lib.hid qA
    clear qE qA HU HV
    have HR1 := Lib.hid h1
    have hs1 := k1.size
    clear h1
    go_wp2
    go_loopw [8, 9] (fun t r wr => ∃ (d : List (Nat × Nat)) (p room : Nat), r = .int .u64 room ∧ d.length ≤ n ∧ d.length ≤ p ∧ room ≤ M ∧ RdAt wr g s p ∧ wr.ownsRow w.heap.size 36 2 t d.length (cells2 d) ∧ Kept (oneRow g) w wr ∧
        Hid (readR n s (i + c) [] M = readR (n - d.length) s p d room) ∧ Hid ((spreads d).length + room = M) ∧ Hid (∀ q ∈ d, q.1 < M64 ∧ q.2 < M64))
      (fun t _ _ => n - (match t with | .slice _ l _ => l | _ => 0))
    case atStart => exact ⟨[], i + c, M, rfl, by simp, by simp, by omega, HR1.out, World.ownsRow_nil _ _ _ _, k1, rfl, by show (spreads []).length + M = M; simp [spreads], fun q hq => by simp at hq⟩
    case round =>
      clear HR1 k1
      obtain ⟨d, p, room, rfl, hdn, hdp, hroom, hr, ho, hk, hU, hT, hQ⟩ := hrel
      obtain ⟨A, cp, hv, hc2, hc3, _⟩ := (SeqS.of_owns ho).form
      have hps := hr.2.1
      by_cases hlt : d.length < n
      · have e1 : decide (d.length < n) = true := by simpa using hlt
        have hst : readR (n - d.length) s p d room = if (nextR s p d room).2.1 = 0 then readR (n - (d.length + 1)) s (nextR s p d room).2.2 (d ++ [(nextR s p d room).1]) (room - (nextR s p d room).1.2) else (d, (nextR s p d room).2.1, (nextR s p d room).2.2) := by
          rw [show n - d.length = (n - (d.length + 1)) + 1 by omega, readR]
        have hok := nextR_ok (s := s) (p := p) (bef := d) (room := room)
        have hN := runsNext g s p _ d room w.heap.size _ hr ho (by omega)
        rw [hv] at hN ho
        rw [hv]
        generalize nextR s p d room = R at *
        obtain ⟨⟨x0, c0⟩, er, p2⟩ := R
        simp only at hst hok hN
        have HST := Lib.hid hst
        have HOK := Lib.hid hok
        have HN := Lib.hid hN
        have HO1 := Lib.hid ho
        have HR1 := Lib.hid hr
        clear hst hok hN ho hr hv
        go_wp2_with fail
        refine HN.out.mono ?_
        rintro e w2 ⟨x, c1, rfl, hxc, hr2, k2⟩
        have ho2 := owns_rd HO1.out HR1.out k2 (by decide)
        have hk2 := hk.trans k2 (fun _ _ h => h)
        have hks := hk2.size
        have hli := Lies.made w2 36 #[.int .u64 (x : Int), .int .u64 (c1 : Int)]
        have hbA : Below w2.heap.size w2 (w2.alloc (.cells #[.int .u64 (x : Int), .int .u64 (c1 : Int)] 36)) := (Below.refl _ _).alloc (Nat.le_refl _) _
        have hoA := owns_below ho2 hbA
        have hrA := hr2.later hbA
        have hkA := kept_below hk2 hbA
        have hvb : ∀ k, Value.ownBlock (.slice A d.length cp) = some k → k < w2.heap.size := fun k hk => (ho2.lt k hk).2
        have HVB := Lib.hid hvb
        have d0 := hli.cell 0
        have d1 := hli.cell 1
        simp at d0 d1
        have HXC := Lib.hid hxc
        clear HN ho2 hr2 k2 hbA HO1 HR1 hk hk2 hvb hxc
        by_cases her : er = 0
        · subst her
          obtain ⟨j1, j2, j3, j4, _⟩ := HOK.out rfl
          have hx := HXC.out rfl
          simp only [Prod.mk.injEq] at hx
          obtain ⟨rfl, rfl⟩ := hx
          have hU' : Hid (readR n s (i + c) [] M = readR (n - (d.length + 1)) s p2 (d ++ [(x0, c0)]) (room - c0)) := hU.out.trans (by rw [HST.out, if_pos rfl])
          have hT' : Hid ((spreads (d ++ [(x0, c0)])).length + (room - c0) = M) := by
            show (spreads (d ++ [(x0, c0)])).length + (room - c0) = M
            have := hT.out
            rw [spreads_append, spreads_one, List.length_append, List.length_replicate]; omega
          have hQ' : Hid (∀ q ∈ d ++ [(x0, c0)], q.1 < M64 ∧ q.2 < M64) := fun q hq => by
            rcases List.mem_append.1 hq with hq | hq
            · exact hQ.out q hq
            · simp at hq; subst hq; exact ⟨j4, by unfold M64; simp only; omega⟩
          have hsub : IntKind.u64.wrap ((room : Int) - (c0 : Int)) = ((room - c0 : Nat) : Int) := by rw [IntKind.wrap_u64]; omega
          have hps2 := hrA.2.1
          unfold M64 at j4
          clear HST HOK HXC hU hT hQ
          have hwg : w.heap.size ≤ (w2.alloc (.cells #[.int .u64 (x0 : Int), .int .u64 (c0 : Int)] 36)).heap.size := by have := hkA.size; exact this
          have HOA := Lib.hid hoA
          have HRA := Lib.hid hrA
          have HLI := Lib.hid hli
          have HKA := Lib.hid hkA
          clear hoA hrA hli hkA
          have hsz : (w2.alloc (.cells #[.int .u64 (x0 : Int), .int .u64 (c0 : Int)] 36)).heap.size = w2.heap.size + 1 := by simp
          have HSZ := Lib.hid hsz
          clear hsz
          go_wp2_with (at_builtin; refine append_oneS (w2.alloc (.cells #[.int .u64 (x0 : Int), .int .u64 (c0 : Int)] 36)) #[.int .u64 x0, .int .u64 c0] 2 rfl (.tmp 43) (.tmp 45) 24 rfl w.heap.size 36 _ 16 Try.underlying24 Try.infoRun rfl (by omega) rfl (by simp [Value.oneCell']) _ _ _ rfl HOA.out (by rw [HSZ.out]; rfl) (by unfold maxLen; omega) (by omega) hwg ?_)
          intro v' w3 ho3 hb3 hgr
          have hk3 := kept_append HKA.out HOA.out (Nat.le_refl _) hgr
          have hr3 := HRA.out.kept (kept_grown hgr) (own_ne HOA.out HRA.out.1 (by decide))
          have ho3' : w3.ownsRow w.heap.size 36 2 v' (d ++ [(x0, c0)]).length (cells2 (d ++ [(x0, c0)])) := by
            rw [List.length_append, cells2_append]; exact ho3
          obtain ⟨A3, cp3, hv3, _⟩ := (SeqS.of_owns ho3).form
          rw [hv3] at ho3'
          rw [hv3]
          have HK3 := Lib.hid hk3
          have HR3 := Lib.hid hr3
          have HO3 := Lib.hid ho3'
          have hdl : (d ++ [(x0, c0)]).length = d.length + 1 := by simp
          have HDL := Lib.hid hdl
          clear hk3 hr3 ho3' ho3 hb3 hgr HOA HRA HLI HKA d0 d1 hv3 hdl HSZ
          go_wp2
          go_roundw
          case rel => exact ⟨d ++ [(x0, c0)], p2, room - c0, by first | rfl | rw [hsub], by rw [HDL.out]; omega, by rw [HDL.out]; omega, by omega, HR3.out, HO3.out, HK3.out, by show _ = _; rw [HDL.out]; exact hU'.out, hT', hQ'⟩
          case measure => simp; omega
        · have e5 : ((er : Int) != 0) = true := by simp; omega
          have hst := HST.out
          rw [if_neg her] at hst
          have hU2 := hU.out.trans hst
          have hE2 : E = er := by rw [HE.out, hU2]
          have hA2 : P = p2 := by rw [HA.out, hU2]
          have hO2 : O = [] := by rw [HO.out, hE2, if_neg her]
          have HE2 := Lib.hid hE2
          have HA2 := Lib.hid hA2
          have HO2 := Lib.hid hO2
          have HRA := Lib.hid hrA
          have HKA := Lib.hid hkA
          clear hst hU2 hE2 hA2 hO2 her HST HOK HXC HE HA HO hU hT hQ hoA hrA hkA hli
          go_wp2
          go_ret2
          exact ⟨_, by rw [HE2.out]; rfl, by rw [HO2.out]; exact World.ownsRow_nil _ _ _ _, by rw [HA2.out]; exact HRA.out, HKA.out⟩
      · obtain hdn' : d.length = n := by omega
        have e1 : decide (d.length < n) = false := by simpa using hlt
        have hU := hU.out
        rw [hdn', Nat.sub_self] at hU
        have hU2 : readR n s (i + c) [] M = (d, 0, p) := hU
        have hE2 : E = 0 := by rw [HE.out, hU2]
        have hA2 : P = p := by rw [HA.out, hU2]
        have hO2 : O = spreads d := by rw [HO.out, hE2, if_pos rfl, hU2]
        have hT1 := hT.out
        have HSP := Lib.hid (runsSpread _ d _ (SeqS.of_owns ho) (by omega) hQ.out)
        rw [hv] at HSP
        rw [hv]
        have HE2 := Lib.hid hE2
        have HA2 := Lib.hid hA2
        have HO2 := Lib.hid hO2
        have hks := hk.size
        clear hv hU hU2 hE2 hA2 hO2 hT1 ho HE HA HO hT hdn'
        go_wp2_with fail
        refine HSP.out.mono ?_
        rintro e w' ⟨v', rfl, ho, hb2⟩
        have ho := owns_mono ho hks
        have hr' := hr.later hb2
        have hk' := kept_below hk hb2
        go_wp2
        go_ret2
        exact ⟨_, by rw [HE2.out]; rfl, by rw [HO2.out]; exact ho, by rw [HA2.out]; exact hr', hk'⟩
  · have e5 : ((er : Int) != 0) = true := by simp; omega
    have qE := HE.out
    have qA := HA.out
    rw [if_pos her] at qE qA
    have qO : O = [] := by rw [HO.out, qE, if_neg her]
    have QE := Lib.hid qE
    have QA := Lib.hid qA
    have QO := Lib.hid qO
    clear qE qA qO HE HA HO HU her
    go_wp2
    go_ret2
    exact ⟨_, by rw [QE.out]; rfl, by rw [QO.out]; exact World.ownsRow_nil _ _ _ _, by rw [QA.out]; exact h1, k1⟩
end Go.Proofs.Ytjkgckdldmhgjaa
