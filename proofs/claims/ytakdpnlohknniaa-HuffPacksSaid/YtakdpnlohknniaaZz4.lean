import Derived.Test.YtakdpnlohknniaaZz3
namespace Go.Proofs.Ytakdpnlohknniaa
open Go.RowKit
set_option linter.unusedVariables false
set_option linter.unusedSimpArgs false
def readR : Nat → ByteArray → Nat → List (Nat × Nat) → Nat → List (Nat × Nat) × Nat × Nat
 | 0, _, p, bef, _ => (bef, 0, p)
 | n + 1, s, p, bef, room =>
  if (nextR s p bef room).2.1 = 0 then readR n s (nextR s p bef room).2.2 (bef ++ [(nextR s p bef room).1]) (room - (nextR s p bef room).1.2)
  else (bef, (nextR s p bef room).2.1, (nextR s p bef room).2.2)
def redE (s : ByteArray) (p : Nat) (most : Int) : Nat :=
 if most < 0 then 1 else if (rd (restOf s p)).2.1 ≠ 0 then (rd (restOf s p)).2.1 else (readR (rd (restOf s p)).1 s (p + (rd (restOf s p)).2.2) [] most.toNat).2.1
def redAt (s : ByteArray) (p : Nat) (most : Int) : Nat :=
 if most < 0 then p else if (rd (restOf s p)).2.1 ≠ 0 then p + (rd (restOf s p)).2.2 else (readR (rd (restOf s p)).1 s (p + (rd (restOf s p)).2.2) [] most.toNat).2.2
def redOf (s : ByteArray) (p : Nat) (most : Int) : List Nat := if redE s p most = 0 then spreads (readR (rd (restOf s p)).1 s (p + (rd (restOf s p)).2.2) [] most.toNat).1 else []
theorem nextR_ok {s : ByteArray} {p : Nat} {bef : List (Nat × Nat)} {room : Nat} (h : (nextR s p bef room).2.1 = 0) :
  1 ≤ (nextR s p bef room).1.2 ∧ (nextR s p bef room).1.2 ≤ room ∧ p + 2 ≤ (nextR s p bef room).2.2 ∧ (nextR s p bef room).1.1 < M64 ∧ lastIs bef (nextR s p bef room).1.1 = false := by
 unfold nextR at h ⊢
 have h1 := rd_ok (restOf s p)
 have h2 := rd_ok (restOf s (p + (rd (restOf s p)).2.2))
 have h3 := rd_bound (restOf s p)
 by_cases e1 : (rd (restOf s p)).2.1 = 0
 ·rw [if_neg (by omega)] at h
  rw [if_neg (by omega)]
  generalize rd (restOf s (p + (rd (restOf s p)).2.2)) = b at *
  generalize rd (restOf s p) = a at *
  by_cases e2 : b.2.1 = 0
  ·rw [if_neg (by omega)] at h
   rw [if_neg (by omega)]
   simp only at h ⊢
   cases hl : lastIs bef a.1
   ·rw [hl, if_neg (by decide)] at h
    by_cases e3 : room ≤ b.1
    ·rw [if_pos e3] at h; omega
    ·have := h1 e1
     have := h2 e2
     exact ⟨by omega, by omega, by omega, by unfold M64; omega, rfl⟩
   ·rw [hl, if_pos rfl] at h; omega
  ·rw [if_pos e2] at h; exact absurd h e2
 ·rw [if_pos e1] at h; exact absurd h e1
set_option maxHeartbeats 2000000 in
set_option maxRecDepth 100000 in
theorem runsRead (g : Nat) (s : ByteArray) (i : Nat) (most : Int) (w : World) (h : RdAt w g s i) (hs : s.size ≤ 1099511627776) (h1 : most ≤ 1099511627776) (h2 : -9223372036854775808 ≤ most) :
  Calls Try.prog 56 #[.pointer (some ⟨g, 0, none⟩), .int .i64 most] w fun e w' => ∃ v,
  e = .returned (.tuple #[v, .int .i64 (redE s i most : Nat)]) ∧ w'.ownsRow w.heap.size 24 1 v (redOf s i most).length (cells64 (redOf s i most)) ∧ RdAt w' g s (redAt s i most) ∧ Kept (oneRow g) w w' := by
 by_cases hneg : most < 0
 ·have hE : redE s i most = 1 := by unfold redE; rw [if_pos hneg]
  have hA : redAt s i most = i := by unfold redAt; rw [if_pos hneg]
  have hO : redOf s i most = [] := by unfold redOf; rw [hE]; rfl
  rw [hE, hA, hO]
  clear hE hA hO
  go_enter Try.func56, Try.ntmps56
  go_wp2
  go_ret2
  exact ⟨_, rfl, World.ownsRow_nil _ _ _ _, h, Kept.refl _ _⟩
 obtain ⟨M, rfl⟩ : ∃ M : Nat, most = M := ⟨most.toNat, by omega⟩
 have e0 : decide ((M : Int) < 0) = false := by simp
 have hM : M ≤ 1099511627776 := by omega
 have hE : redE s i M = if (rd (restOf s i)).2.1 ≠ 0 then (rd (restOf s i)).2.1 else (readR (rd (restOf s i)).1 s (i + (rd (restOf s i)).2.2) [] M).2.1 := by
  unfold redE; rw [if_neg hneg, Int.toNat_natCast]
 have hA : redAt s i M = if (rd (restOf s i)).2.1 ≠ 0 then i + (rd (restOf s i)).2.2 else (readR (rd (restOf s i)).1 s (i + (rd (restOf s i)).2.2) [] M).2.2 := by
  unfold redAt; rw [if_neg hneg, Int.toNat_natCast]
 have hO : redOf s i M = if redE s i M = 0 then spreads (readR (rd (restOf s i)).1 s (i + (rd (restOf s i)).2.2) [] M).1 else [] := by unfold redOf; rw [Int.toNat_natCast]
 have hb := rd_bound (restOf s i)
 have hused := rd_ok (restOf s i)
 have HV := Lib.hid (varintRead g s i w h)
 have hgs := h.1.lt
 generalize redE s i M = E at *
 generalize redAt s i M = P at *
 generalize redOf s i M = O at *
 generalize rd (restOf s i) = r at *
 obtain ⟨n, er, c⟩ := r
 simp only at hb hE hA hO hused
 have HE := Lib.hid hE
 have HA := Lib.hid hA
 have HO := Lib.hid hO
 have HU := Lib.hid hused
 clear hE hA hO hused h1 h2 hneg h
 go_enter Try.func56, Try.ntmps56
 go_wp2_with fail
 refine HV.out.mono ?_
 rintro e w1 ⟨rfl, h1, k1⟩
 by_cases her : er = 0
 ·subst her
  have hc1 : 1 ≤ c := HU.out rfl
  have qE := HE.out
  have qA := HA.out
  rw [if_neg (show ¬ (0 : Nat) ≠ 0 by omega)] at qE qA
  clear HE HA
  have HE := Lib.hid qE
  have HA := Lib.hid qA
  clear qE qA HU HV
  have HR1 := Lib.hid h1
  have hs1 := k1.size
  clear h1
  go_wp2
  go_loopw [8, 9] (fun t r wr => ∃ (d : List (Nat × Nat)) (p room : Nat), r = .int .u64 room ∧ d.length ≤ n ∧ d.length ≤ p ∧ room ≤ M ∧ RdAt wr g s p ∧ wr.ownsRow w.heap.size 101 2 t d.length (cells2 d) ∧ Kept (oneRow g) w wr ∧
    Hid (readR n s (i + c) [] M = readR (n - d.length) s p d room) ∧ Hid ((spreads d).length + room = M) ∧ Hid (∀ q ∈ d, q.1 < M64 ∧ q.2 < M64))
   (fun t _ _ => n - (match t with | .slice _ l _ => l | _ => 0))
  case atStart => exact ⟨[], i + c, M, rfl, by simp, by simp, by omega, HR1.out, World.ownsRow_nil _ _ _ _, k1, rfl, by show (spreads []).length + M = M; simp [spreads], fun q hq => by simp at hq⟩
  case round =>
   clear HR1 k1
   obtain ⟨d, p, room, rfl, hdn, hdp, hroom, hr, ho, hk, hU, hT, hQ⟩ := hrel
   obtain ⟨A, cp, hv, hc2, hc3, _⟩ := (SeqS.of_owns ho).form
   have hps := hr.2.1
   by_cases hlt : d.length < n
   ·have e1 : decide (d.length < n) = true := by simpa using hlt
    have hst : readR (n - d.length) s p d room = if (nextR s p d room).2.1 = 0 then readR (n - (d.length + 1)) s (nextR s p d room).2.2 (d ++ [(nextR s p d room).1]) (room - (nextR s p d room).1.2) else (d, (nextR s p d room).2.1, (nextR s p d room).2.2) := by
     rw [show n - d.length = (n - (d.length + 1)) + 1 by omega, readR]
    have hok := nextR_ok (s := s) (p := p) (bef := d) (room := room)
    have hN := runsNext g s p _ d room w.heap.size _ hr ho (by omega)
    rw [hv] at hN ho
    rw [hv]
    generalize nextR s p d room = R at *
    obtain ⟨⟨x0, c0⟩, er, p2⟩ := R
    simp only at hst hok hN
    have HST := Lib.hid hst
    have HOK := Lib.hid hok
    have HN := Lib.hid hN
    have HO1 := Lib.hid ho
    have HR1 := Lib.hid hr
    clear hst hok hN ho hr hv
    go_wp2_with fail
    refine HN.out.mono ?_
    rintro e w2 ⟨x, c1, rfl, hxc, hr2, k2⟩
    have ho2 := owns_rd HO1.out HR1.out k2 (by decide)
    have hk2 := hk.trans k2 (fun _ _ h => h)
    have hks := hk2.size
    have hli := Lies.made w2 101 #[.int .u64 (x : Int), .int .u64 (c1 : Int)]
    have hbA : Below w2.heap.size w2 (w2.alloc (.cells #[.int .u64 (x : Int), .int .u64 (c1 : Int)] 101)) := (Below.refl _ _).alloc (Nat.le_refl _) _
    have hoA := owns_below ho2 hbA
    have hrA := hr2.later hbA
    have hkA := kept_below hk2 hbA
    have hvb : ∀ k, Value.ownBlock (.slice A d.length cp) = some k → k < w2.heap.size := fun k hk => (ho2.lt k hk).2
    have HVB := Lib.hid hvb
    have d0 := hli.cell 0
    have d1 := hli.cell 1
    simp at d0 d1
    have HXC := Lib.hid hxc
    clear HN ho2 hr2 k2 hbA HO1 HR1 hk hk2 hvb hxc
    by_cases her : er = 0
    ·subst her
     obtain ⟨j1, j2, j3, j4, _⟩ := HOK.out rfl
     have hx := HXC.out rfl
     simp only [Prod.mk.injEq] at hx
     obtain ⟨rfl, rfl⟩ := hx
     have hU' : Hid (readR n s (i + c) [] M = readR (n - (d.length + 1)) s p2 (d ++ [(x0, c0)]) (room - c0)) := hU.out.trans (by rw [HST.out, if_pos rfl])
     have hT' : Hid ((spreads (d ++ [(x0, c0)])).length + (room - c0) = M) := by
      show (spreads (d ++ [(x0, c0)])).length + (room - c0) = M
      have := hT.out
      rw [spreads_append, spreads_one, List.length_append, List.length_replicate]; omega
     have hQ' : Hid (∀ q ∈ d ++ [(x0, c0)], q.1 < M64 ∧ q.2 < M64) := fun q hq => by
      rcases List.mem_append.1 hq with hq | hq
      ·exact hQ.out q hq
      ·simp at hq; subst hq; exact ⟨j4, by unfold M64; simp only; omega⟩
     have hsub : IntKind.u64.wrap ((room : Int) - (c0 : Int)) = ((room - c0 : Nat) : Int) := by rw [IntKind.wrap_u64]; omega
     have hps2 := hrA.2.1
     unfold M64 at j4
     clear HST HOK HXC hU hT hQ
     have hwg : w.heap.size ≤ (w2.alloc (.cells #[.int .u64 (x0 : Int), .int .u64 (c0 : Int)] 101)).heap.size := by have := hkA.size; exact this
     have HOA := Lib.hid hoA
     have HRA := Lib.hid hrA
     have HLI := Lib.hid hli
     have HKA := Lib.hid hkA
     clear hoA hrA hli hkA
     have hsz : (w2.alloc (.cells #[.int .u64 (x0 : Int), .int .u64 (c0 : Int)] 101)).heap.size = w2.heap.size + 1 := by simp
     have HSZ := Lib.hid hsz
     clear hsz
     go_wp2_with (at_builtin; refine append_oneS (w2.alloc (.cells #[.int .u64 (x0 : Int), .int .u64 (c0 : Int)] 101)) #[.int .u64 x0, .int .u64 c0] 2 rfl (.tmp 43) (.tmp 45) 98 rfl w.heap.size 101 _ 16 Try.underlying98 Try.infoRun rfl (by omega) rfl (by simp [Value.oneCell']) _ _ _ rfl HOA.out (by rw [HSZ.out]; rfl) (by unfold maxLen; omega) (by omega) hwg ?_)
     intro v' w3 ho3 hb3 hgr
     have hk3 := kept_append HKA.out HOA.out (Nat.le_refl _) hgr
     have hr3 := HRA.out.kept (kept_grown hgr) (own_ne HOA.out HRA.out.1 (by decide))
     have ho3' : w3.ownsRow w.heap.size 101 2 v' (d ++ [(x0, c0)]).length (cells2 (d ++ [(x0, c0)])) := by
      rw [List.length_append, cells2_append]; exact ho3
     obtain ⟨A3, cp3, hv3, _⟩ := (SeqS.of_owns ho3).form
     rw [hv3] at ho3'
     rw [hv3]
     have HK3 := Lib.hid hk3
     have HR3 := Lib.hid hr3
     have HO3 := Lib.hid ho3'
     have hdl : (d ++ [(x0, c0)]).length = d.length + 1 := by simp
     have HDL := Lib.hid hdl
     clear hk3 hr3 ho3' ho3 hb3 hgr HOA HRA HLI HKA d0 d1 hv3 hdl HSZ
     go_wp2
     go_roundw
     case rel => exact ⟨d ++ [(x0, c0)], p2, room - c0, by first | rfl | rw [hsub], by rw [HDL.out]; omega, by rw [HDL.out]; omega, by omega, HR3.out, HO3.out, HK3.out, by show _ = _; rw [HDL.out]; exact hU'.out, hT', hQ'⟩
     case measure => simp; omega
    ·have e5 : ((er : Int) != 0) = true := by simp; omega
     have hst := HST.out
     rw [if_neg her] at hst
     have hU2 := hU.out.trans hst
     have hE2 : E = er := by rw [HE.out, hU2]
     have hA2 : P = p2 := by rw [HA.out, hU2]
     have hO2 : O = [] := by rw [HO.out, hE2, if_neg her]
     have HE2 := Lib.hid hE2
     have HA2 := Lib.hid hA2
     have HO2 := Lib.hid hO2
     have HRA := Lib.hid hrA
     have HKA := Lib.hid hkA
     clear hst hU2 hE2 hA2 hO2 her HST HOK HXC HE HA HO hU hT hQ hoA hrA hkA hli
     go_wp2
     go_ret2
     exact ⟨_, by rw [HE2.out]; rfl, by rw [HO2.out]; exact World.ownsRow_nil _ _ _ _, by rw [HA2.out]; exact HRA.out, HKA.out⟩
   ·obtain hdn' : d.length = n := by omega
    have e1 : decide (d.length < n) = false := by simpa using hlt
    have hU := hU.out
    rw [hdn', Nat.sub_self] at hU
    have hU2 : readR n s (i + c) [] M = (d, 0, p) := hU
    have hE2 : E = 0 := by rw [HE.out, hU2]
    have hA2 : P = p := by rw [HA.out, hU2]
    have hO2 : O = spreads d := by rw [HO.out, hE2, if_pos rfl, hU2]
    have hT1 := hT.out
    have HSP := Lib.hid (runsSpread _ d _ (SeqS.of_owns ho) (by omega) hQ.out)
    rw [hv] at HSP
    rw [hv]
    have HE2 := Lib.hid hE2
    have HA2 := Lib.hid hA2
    have HO2 := Lib.hid hO2
    have hks := hk.size
    clear hv hU hU2 hE2 hA2 hO2 hT1 ho HE HA HO hT hdn'
    go_wp2_with fail
    refine HSP.out.mono ?_
    rintro e w' ⟨v', rfl, ho, hb2⟩
    have ho := owns_mono ho hks
    have hr' := hr.later hb2
    have hk' := kept_below hk hb2
    go_wp2
    go_ret2
    exact ⟨_, by rw [HE2.out]; rfl, by rw [HO2.out]; exact ho, by rw [HA2.out]; exact hr', hk'⟩
 ·have e5 : ((er : Int) != 0) = true := by simp; omega
  have qE := HE.out
  have qA := HA.out
  rw [if_pos her] at qE qA
  have qO : O = [] := by rw [HO.out, qE, if_neg her]
  have QE := Lib.hid qE
  have QA := Lib.hid qA
  have QO := Lib.hid qO
  clear qE qA qO HE HA HO HU her
  go_wp2
  go_ret2
  exact ⟨_, by rw [QE.out]; rfl, by rw [QO.out]; exact World.ownsRow_nil _ _ _ _, by rw [QA.out]; exact h1, k1⟩
def rlA (s : ByteArray) (i : Nat) : Bool := decide (redE s i 256 = 0) && decide ((redOf s i 256).length = 256) && (redOf s i 256).all fun n => decide (n ≤ 56)
def rlL (s : ByteArray) (i : Nat) : List Nat := if rlA s i = true then redOf s i 256 else List.replicate 256 0
def rlB (s : ByteArray) (i : Nat) : Bool := rlA s i && wholeB (rlL s i)
theorem rlL_ok (s : ByteArray) (i : Nat) : LOk (rlL s i) := by
 unfold rlL
 split
 ·next h =>
  unfold rlA at h
  simp only [Bool.and_eq_true, decide_eq_true_eq, List.all_eq_true] at h
  exact ⟨h.1.2, h.2⟩
 ·exact ⟨List.length_replicate, fun n hn => by rw [List.eq_of_mem_replicate hn]; omega⟩
set_option maxHeartbeats 2000000 in
set_option maxRecDepth 100000 in
theorem huffReadLengths (g : Nat) (s : ByteArray) (p : Nat) (w : World) (h : RdAt w g s p) (hs : s.size ≤ 1099511627776) :
  Calls Try.prog 41 #[.pointer (some ⟨g, 0, none⟩)] w fun e w' => e = .returned (.tuple #[.agg (c8 (rlL s p)).toArray, .bool (rlB s p)]) ∧ RdAt w' g s (redAt s p 256) ∧ Kept (oneRow g) w w' := by
 have hrd := fun w h => runsRead g s p 256 w h hs (by omega) (by omega)
 have hcm := fun w => huffComplete (rlL s p) w (rlL_ok s p)
 obtain ⟨Z, hZ⟩ : ∃ Z, Z = c8 (List.replicate 256 0) := ⟨_, rfl⟩
 have hz := zero8
 have hzz : (Array.replicate 256 (Value.int .u8 0)) = Z.toArray := by rw [hZ]; unfold c8; rw [List.map_replicate]; exact (List.toArray_replicate 256 _).symm
 rw [hzz] at hz
 have hzl : Z.length = 256 := by rw [hZ, c8_length, List.length_replicate]
 have hz1 : Z.toArray.all (·.oneCell') = true := by rw [hZ]; exact c8_one _
 have hi2 : (Try.prog.info? 27).map (·.size) = some Z.length := by rw [hzl]; exact info8
 have hi3 : (Try.prog.info? 27).map (·.size) = some Z.toArray.size := by rw [List.size_toArray, hzl]; exact info8
 have HZ := Lib.hid hZ
 have HZL := Lib.hid hzl
 have HZ1 := Lib.hid hz1
 have HI2 := Lib.hid hi2
 have HI3 := Lib.hid hi3
 have HRD := Lib.hid hrd
 have HCM := Lib.hid hcm
 have hgl := h.1.lt
 have l0 := Lies.made w 27 Z.toArray
 have hr0 := h.later ((Below.refl w.heap.size w).alloc (Nat.le_refl _) (.cells Z.toArray 27))
 have L0 := Lib.hid l0
 have HR0 := Lib.hid hr0
 have HK0 := Lib.hid (Kept.alloc (oneRow g) w (.cells Z.toArray 27))
 have hsz : (w.alloc (.cells Z.toArray 27)).heap.size = w.heap.size + 1 := by simp
 obtain ⟨g0, hg0⟩ : ∃ g0, g0 = w.heap.size := ⟨_, rfl⟩
 rw [← hg0] at L0 hgl hsz
 have HG0 := Lib.hid hg0
 have HSZ := Lib.hid hsz
 clear hZ hzz hzl hz1 hi2 hi3 hrd hcm l0 hr0 h hg0 hsz
 go_enter Try.func41, Try.ntmps41
 go_wp2_with fail
 rw [← HG0.out]
 generalize w.alloc (.cells Z.toArray 27) = w1 at *
 refine (HRD.out w1 HR0.out).mono ?_
 rintro e w2 ⟨v, rfl, ho, hr2, hk2⟩
 have L2 := Lib.hid (L0.out.kept hk2 (fun e => by have h1 : g0 = g := e; omega))
 have HR2 := Lib.hid hr2
 have HK2 := Lib.hid (HK0.out.trans hk2 (fun _ _ h => h))
 have hz2 : g0 + 1 ≤ w2.heap.size := by have := hk2.size; rw [HSZ.out] at this; exact this
 have HO := Lib.hid ho
 obtain ⟨A, cp, rfl, hq1, hq2, _⟩ := (SeqS.of_owns ho).form
 unfold maxLen at hq2
 have HA : Hid (rlA s p = (decide (redE s p 256 = 0) && decide ((redOf s p 256).length = 256) && (redOf s p 256).all fun n => decide (n ≤ 56))) := rfl
 have HLL : Hid (rlL s p = if rlA s p = true then redOf s p 256 else List.replicate 256 0) := rfl
 have HBB : Hid (rlB s p = (rlA s p && wholeB (rlL s p))) := rfl
 obtain ⟨E, hE⟩ : ∃ E, E = redE s p 256 := ⟨_, rfl⟩
 obtain ⟨l, hl⟩ : ∃ l, l = redOf s p 256 := ⟨_, rfl⟩
 rw [← hE, ← hl] at HA
 rw [← hl] at HLL HO hq1
 rw [← hE, ← hl]
 have HTH := Lib.hid (arr_there L2.out (n := Z.toArray.size) rfl)
 have HSTO := Lib.hid (arr_store L2.out (L := Z) (by simp))
 have HRS := Lib.hid (HR2.out.kept (kept_cellsH Z 0 w2 (g := g0)) (fun e => by have h1 : g = g0 := e; omega))
 have HKS := Lib.hid (HK2.out.trans (kept_cellsH Z 0 w2 (g := g0)) (fun i hi e => by have h1 : i = g0 := e; have := HG0.out; omega))
 clear ho hr2 hk2 hE hl HR0 HK0 L0 HSZ HRD
 have hnot : rlA s p = false → rlL s p = List.replicate 256 0 ∧ rlB s p = false := fun hf => ⟨by rw [HLL.out, hf]; rfl, by rw [HBB.out, hf]; rfl⟩
 have HNOT := Lib.hid hnot
 clear hnot
 by_cases hE0 : E = 0
 ·have e1 : ((E : Int) != 0) = false := by simp; omega
  have e2 : (E != 0) = false := by simpa using hE0
  by_cases hl256 : l.length = 256
  ·have e3 : ((l.length : Int) != 256) = false := by simp; omega
   have e4 : (l.length != 256) = false := by simp; omega
   have HL256 := Lib.hid hl256
   have L3 := Lib.hid (L2.out.alloc (.cells Z.toArray 27))
   have LQ := Lib.hid (Lies.made w2 27 Z.toArray)
   have HO3 := Lib.hid (HO.out.alloc (.cells Z.toArray 27))
   have HR3 := Lib.hid (HR2.out.later ((Below.refl w2.heap.size w2).alloc (Nat.le_refl _) (.cells Z.toArray 27)))
   have HK3 := Lib.hid (HK2.out.trans (Kept.alloc (oneRow g) w2 (.cells Z.toArray 27)) (fun _ _ h => h))
   have hsz3 : (w2.alloc (.cells Z.toArray 27)).heap.size = w2.heap.size + 1 := by simp
   obtain ⟨gq, hgq⟩ : ∃ gq, gq = w2.heap.size := ⟨_, rfl⟩
   rw [← hgq] at LQ hsz3 hz2
   have LQ0 := LQ
   have HE0 := Lib.hid hE0
   have HGQ := Lib.hid hgq
   have HSZ3 := Lib.hid hsz3
   clear hgq HTH HSTO HRS HKS HR2 HK2 L2 HO hE0 hsz3
   have hll : l.length ≤ 256 := by omega
   go_wp2_with fail
   rw [← HGQ.out]
   generalize w2.alloc (.cells Z.toArray 27) = w3 at *
   clear hz
   clear hl256
   go_loopw [24] (fun c wr => ∃ i : Nat, i ≤ l.length ∧ c = .int .i64 i ∧ Hid (∀ j, j < i → l.getD j 0 ≤ 56) ∧ Lies wr gq 27 (c8 (l.take i ++ List.replicate (256 - i) 0)).toArray ∧ Kept (oneRow gq) w3 wr)
    (fun c _ => l.length - (intOf c).toNat)
   case atStart => exact ⟨0, by omega, rfl, (fun j hj => by omega), by rw [List.take_zero, List.nil_append, Nat.sub_zero, ← HZ.out]; exact LQ.out, Kept.refl _ _⟩
   case round =>
    clear LQ
    obtain ⟨i, hi, rfl, hall, lq, hk⟩ := hrel
    have L0 := Lib.hid (L3.out.kept hk (fun e => by have h1 : g0 = gq := e; omega))
    have HOw := Lib.hid (owns_kept HO3.out hk (fun q cur _ hl e => by
     have h1 : q = gq := e
     subst h1
     exact absurd (hl.same LQ0.out).1 (by decide)))
    have HRw := Lib.hid (HR3.out.kept hk (fun e => by have h1 : g = gq := e; omega))
    have HKw := Lib.hid (HK3.out.trans hk (fun i hi e => by have h1 : i = gq := e; have := HG0.out; omega))
    have LQ := Lib.hid lq
    have HK := Lib.hid hk
    have hwz : gq + 1 ≤ wr.heap.size := by have := hk.size; rw [HSZ3.out] at this; exact this
    clear lq hk
    by_cases hlt : i < l.length
    ·have hii : (i : Int) < (l.length : Int) := by omega
     have hi256 : (i : Int) < 256 := by omega
     obtain ⟨n, hn⟩ : ∃ n, l[i]? = some n := ⟨_, List.getElem?_eq_getElem hlt⟩
     obtain ⟨r, cp3, hv3, _, _, _, _⟩ := owns_openS HOw.out (by omega)
     have hv4 : A = some ⟨r, 0, none⟩ := by
      simp only [Value.slice.injEq] at hv3
      exact hv3.1
     clear hv3
     subst hv4
     have cn := owns_cell HOw.out (c64_get'' hn)
     by_cases hn56 : 56 < n
     ·have e5 : decide ((56 : Int) < (n : Int)) = true := by simp; omega
      have e6 : decide (56 < n) = true := by simpa using hn56
      have hno := HNOT.out (by
       rw [HA.out]
       have : (l.all fun n => decide (n ≤ 56)) = false := by
        rw [List.all_eq_false]
        exact ⟨n, List.mem_of_getElem? hn, by simp; omega⟩
       rw [this, Bool.and_false])
      have HNO := Lib.hid hno
      have HTH := Lib.hid (arr_there L0.out (n := Z.toArray.size) rfl)
      have HSTO := Lib.hid (arr_store L0.out (L := Z) (by simp))
      have HRS := Lib.hid (HRw.out.kept (kept_cellsH Z 0 wr (g := g0)) (fun e => by have h1 : g = g0 := e; omega))
      have HKS := Lib.hid (HKw.out.trans (kept_cellsH Z 0 wr (g := g0)) (fun i hi e => by have h1 : i = g0 := e; have := HG0.out; omega))
      have hze := zero8
      rw [show (Array.replicate 256 (Value.int .u8 0)) = Z.toArray by rw [HZ.out]; unfold c8; rw [List.map_replicate]; exact (List.toArray_replicate 256 _).symm] at hze
      clear hno hn hn56 hall
      go_wp2_with (refine wpList_store_mid rfl 27 _ _ rfl g0 0 Z.toArray rfl rfl HTH.out HI3.out HZ1.out ?_)
      refine bodyPost_ret (v := .tuple #[.agg Z.toArray, .bool false]) (results_cell_tmp Try.results41 _ _ g0 Z _ rfl (arr_range HSTO.out) under8 rfl HI2.out) rfl ⟨by rw [HNO.out.1, HNO.out.2, ← HZ.out], HRS.out, HKS.out⟩
     ·have e5 : decide ((56 : Int) < (n : Int)) = false := by simp; omega
      have e6 : decide (56 < n) = false := by simpa using hn56
      have hall2 : Hid (∀ j, j < i + 1 → l.getD j 0 ≤ 56) := fun j hj => by
       by_cases h : j = i
       ·rw [h, getD_of hn]; omega
       ·exact hall.out j (by omega)
      have en : IntKind.u8.wrap (n : Int) = (n : Int) := by rw [IntKind.wrap_u8]; omega
      have hlt2 : (l.take i).length = i := by rw [List.length_take]; omega
      have cz : wr.cell? ⟨gq, i, none⟩ = some (.int .u8 ((0 : Nat) : Int)) := (LQ.out.cell i).trans (by
       rw [List.getElem?_toArray]
       exact c8_get (by rw [List.getElem?_append_right (by omega), hlt2, Nat.sub_self, List.getElem?_replicate, if_pos (by omega)]))
      have fz := LQ.out.free i
      have hput := LQ.out.putL' i (.int .u8 (n : Int))
      rw [c8_set, take_rep hn (by omega)] at hput
      have HP := Lib.hid hput
      have HKP := Lib.hid (HK.out.trans (Kept.put wr gq i (.int .u8 (n : Int))) (fun _ _ h => h))
      clear hput hn hn56 hall hlt2
      go_wp2_with fail
      go_roundw
      case rel => exact ⟨i + 1, by omega, by go_num, hall2, HP.out, HKP.out⟩
      case measure => simp [intOf]; omega
    ·obtain rfl : i = l.length := by omega
     have hal : (l.all fun n => decide (n ≤ 56)) = true := by
      rw [List.all_eq_true]
      intro n hn
      obtain ⟨j, hj, he⟩ := List.getElem_of_mem hn
      have h1 := hall.out j hj
      rw [getD_of (show l[j]? = some n by rw [List.getElem?_eq_getElem hj, he])] at h1
      simpa using h1
     have hA := HA.out
     rw [hal, HL256.out, HE0.out] at hA
     have hA2 : rlA s p = true := hA
     have hL2 := HLL.out
     rw [if_pos hA2] at hL2
     have lq := LQ.out
     rw [List.take_of_length_le (Nat.le_refl _), HL256.out, Nat.sub_self, List.replicate_zero, List.append_nil, ← hL2] at lq
     have hB2 : rlB s p = wholeB (rlL s p) := by rw [HBB.out, hA2]; rfl
     obtain ⟨T, hT⟩ : ∃ T, T = c8 (rlL s p) := ⟨_, rfl⟩
     have hTl : T.length = 256 := by rw [hT, c8_length, (rlL_ok s p).1]
     have hT1 : T.toArray.all (·.oneCell') = true := by rw [hT]; exact c8_one _
     have hcm := HCM.out
     rw [← hT] at lq hcm
     have hj1 : (Try.prog.info? 27).map (·.size) = some T.length := by rw [hTl]; exact info8
     have hj2 : (Try.prog.info? 27).map (·.size) = some T.toArray.size := by rw [List.size_toArray, hTl]; exact info8
     have HT := Lib.hid hT
     have HJ1 := Lib.hid hj1
     have HJ2 := Lib.hid hj2
     have HT1 := Lib.hid hT1
     have HC2 := Lib.hid hcm
     have HB2 := Lib.hid hB2
     have LQ2 := Lib.hid lq
     have HTL := Lib.hid hTl
     clear hal hA hA2 hL2 lq hB2 hT hTl hT1 hcm hj1 hj2 hall HCM HA HLL HBB HNOT
     have x7 : decide ((l.length : Int) < 256) = false := by have := HL256.out; simp; omega
     have x8 : decide (l.length < 256) = false := by have := HL256.out; simp; omega
     go_wp2_with fail
     have hKeep : Hid (∀ a b : World, Below a.heap.size a b → (Lies a gq 27 T.toArray ∧ (∃ cs : Array Value, Lies a g0 27 cs ∧ cs.size = 256) ∧ RdAt a g s (redAt s p 256) ∧ Kept (oneRow g) w a) →
       (Lies b gq 27 T.toArray ∧ (∃ cs : Array Value, Lies b g0 27 cs ∧ cs.size = 256) ∧ RdAt b g s (redAt s p 256) ∧ Kept (oneRow g) w b)) := fun a b hb h => by
      obtain ⟨h1, ⟨cs, h2, h3⟩, h4, h5⟩ := h
      exact ⟨h1.below hb h1.lt, ⟨cs, h2.below hb h2.lt, h3⟩, h4.later hb, h5.trans (Kept.of_below hb) (fun _ _ h => h.elim)⟩
     try simp only [Act.put, List.setIfInBounds_toArray, List.set_cons_zero, List.set_cons_succ]
     refine wp_region_held_drew (S := fun u => (Lies u gq 27 T.toArray ∧ (∃ cs : Array Value, Lies u g0 27 cs ∧ cs.size = 256) ∧ RdAt u g s (redAt s p 256) ∧ Kept (oneRow g) w u) ∧ Below 0 wr u ∧ 0 ≤ u.heap.size) (by kernel_rfl)
      ⟨⟨LQ2.out, ⟨_, L0.out, by rw [List.size_toArray, HZL.out]⟩, HRw.out.kept (Kept.drewN noRow wr 1) (fun h => h), HKw.out.trans (Kept.drewN noRow wr 1) (fun _ _ h => h.elim)⟩, (Below.refl 0 wr).drew, Nat.zero_le _⟩ (fun hHeld => ?_)
     refine wpAnyH_take (i := 0) rfl (by kernel_rfl) (by kernel_rfl) (by kernel_rfl) (fun _ _ _ h => h) (yieldsIf_load_mid (by rfl) _ _ rfl gq 0 rfl T _ (fun w h => arr_range h.1.1) under8 rfl HJ1.out) (by assumption) ?_
     try simp only [Act.put, List.setIfInBounds_toArray, List.set_cons_zero, List.set_cons_succ]
     refine wpAnyH_take (i := 1) rfl (by kernel_rfl) (by kernel_rfl) (by kernel_rfl) (fun _ _ _ h => h) (yieldsIf_load_mid (by rfl) _ _ rfl gq 0 rfl T _ (fun w h => arr_range h.1.1) under8 rfl HJ1.out) (by assumption) ?_
     try simp only [Act.put, List.setIfInBounds_toArray, List.set_cons_zero, List.set_cons_succ]
     refine wpAnyH_ready (rs := [2]) (by kernel_rfl) (by simp) ?_
     refine AllReadyH.cons rfl (fun K hK => ?_) AllReadyH.nil
     rw [if_pos (by rfl)]
     go_wp2_with fail
     refine (keep_callS hKeep.out (HC2.out _) (by assumption)).mono ?_
     rintro e w' ⟨he, q⟩
     cases he
     dsimp only
     refine hK.out _ _ q (fun hHeld => ?_)
     clear hK K
     try simp only [Act.put, List.setIfInBounds_toArray, List.set_cons_zero, List.set_cons_succ]
     refine wpAnyH_ready (rs := [3]) (by kernel_rfl) (by simp) ?_
     refine AllReadyH.cons rfl (fun K hK => ?_) AllReadyH.nil
     rw [if_pos (by rfl)]
     obtain ⟨⟨h1, ⟨cs, h2, h3⟩, h4, h5⟩, hb0, hb1⟩ := hHeld
     refine wp_store_mid 27 _ _ rfl g0 0 T.toArray rfl rfl (arr_there h2 (by rw [h3, List.size_toArray, HTL.out])) HJ2.out HT1.out ?_
     have hst := arr_store h2 (L := T) (by rw [h3, HTL.out])
     have hkc := kept_cellsH T 0 w' (g := g0)
     have h4s := h4.kept hkc (fun e => by have h1 : g = g0 := e; omega)
     have h5s := h5.trans hkc (fun i hi e => by have h1 : i = g0 := e; have := HG0.out; omega)
     have h1s := h1.kept hkc (fun e => by have h1 : gq = g0 := e; omega)
     have HST := Lib.hid hst
     have H4 := Lib.hid h4s
     have H5 := Lib.hid h5s
     refine hK.out _ _ ⟨⟨h1s, ⟨_, hst, by rw [List.size_toArray, HTL.out]⟩, h4s, h5s⟩, below_cellsA (Nat.zero_le _) T 0 _ hb0, Nat.zero_le _⟩ (fun hHeld => ?_)
     clear hK K h1 h2 h3 h4 h5 hb0 hb1 hst hkc h4s h5s h1s
     try simp only [Act.put, List.setIfInBounds_toArray, List.set_cons_zero, List.set_cons_succ]
     refine wpAnyH_ready (rs := [4]) (by kernel_rfl) (by simp) ?_
     refine AllReadyH.cons rfl (fun K hK => ?_) AllReadyH.nil
     rw [if_pos (by rfl)]
     go_wp2_with fail
     refine hK.out _ _ (by assumption) (fun hHeld => ?_)
     clear hK K
     try simp only [Act.put, List.setIfInBounds_toArray, List.set_cons_zero, List.set_cons_succ]
     refine wpAnyH_done (by kernel_rfl) ?_ _
     go_wp2
     refine bodyPost_ret (v := .tuple #[.agg T.toArray, .bool (wholeB (rlL s p))]) (results_cell_tmp Try.results41 _ _ g0 T _ rfl (arr_range HST.out) under8 rfl HJ1.out) rfl ⟨by rw [HB2.out, HT.out], H4.out, H5.out⟩
  ·have e3 : ((l.length : Int) != 256) = true := by simp; omega
   have e4 : (l.length != 256) = true := by simpa using hl256
   have hno := HNOT.out (by rw [HA.out, decide_eq_false hl256]; simp)
   have HNO := Lib.hid hno
   clear hno hl256 hE0
   go_wp2_with (refine wpList_store_mid rfl 27 _ _ rfl g0 0 Z.toArray rfl rfl HTH.out HI3.out HZ1.out ?_)
   refine bodyPost_ret (v := .tuple #[.agg Z.toArray, .bool false]) (results_cell_tmp Try.results41 _ _ g0 Z _ rfl (arr_range HSTO.out) under8 rfl HI2.out) rfl ⟨by rw [HNO.out.1, HNO.out.2, ← HZ.out], HRS.out, HKS.out⟩
 ·have e1 : ((E : Int) != 0) = true := by simp; omega
  have e2 : (E != 0) = true := by simpa using hE0
  have hno := HNOT.out (by rw [HA.out, decide_eq_false hE0]; simp)
  have HNO := Lib.hid hno
  clear hno hE0
  go_wp2_with (refine wpList_store_mid rfl 27 _ _ rfl g0 0 Z.toArray rfl rfl HTH.out HI3.out HZ1.out ?_)
  refine bodyPost_ret (v := .tuple #[.agg Z.toArray, .bool false]) (results_cell_tmp Try.results41 _ _ g0 Z _ rfl (arr_range HSTO.out) under8 rfl HI2.out) rfl ⟨by rw [HNO.out.1, HNO.out.2, ← HZ.out], HRS.out, HKS.out⟩
def nxS (ls : List Nat) : Nat → Nat → Nat → List Bool → Option Nat × Nat
 | 0, _, _, _ => (none, 0)
 | _ + 1, _, _, [] => (none, 0)
 | f + 1, k, a, b :: t =>
  if 2 * a + b.toNat < ls.count k then (some (pre ls k + (2 * a + b.toNat)), 1)
  else ((nxS ls f (k + 1) (2 * a + b.toNat - ls.count k) t).1, (nxS ls f (k + 1) (2 * a + b.toNat - ls.count k) t).2 + 1)
theorem nxS_zero (ls : List Nat) (k a : Nat) (l : List Bool) : nxS ls 0 k a l = (none, 0) := by unfold nxS; rfl
theorem nxS_nil (ls : List Nat) (f k a : Nat) : nxS ls f k a [] = (none, 0) := by cases f <;> rfl
theorem drop_bit {l : List Bool} {i : Nat} {b : Bool} (h : l[i]? = some b) : l.drop i = b :: l.drop (i + 1) := by
 obtain ⟨hi, he⟩ := List.getElem?_eq_some_iff.1 h
 rw [List.drop_eq_getElem_cons hi, he]
theorem br_ne {w : World} {g b o : Nat} {s : ByteArray} {i : Nat} {l : List Nat} {k : Nat} {u : Value} (hr : BrAt w g s i) (hu : (c8 l)[k]? = some u) (hc : w.cell? ⟨b, o, none⟩ = some u) : b ≠ g := by
 intro e
 subst e
 rw [hr.1.cell o] at hc
 unfold c8 at hu
 rw [List.getElem?_map] at hu
 rcases hq : l[k]? with _ | n
 ·rw [hq] at hu; cases hu
 ·rw [hq] at hu
  have hu' := Option.some.inj hu
  subst hu'
  match o, hc with
  | 0, hc => simp at hc
  | 1, hc => simp at hc
  | o + 2, hc => simp at hc
theorem cutB_one {s : ByteArray} {i : Nat} {b : Bool} (h : (allB s)[i]? = some b) : cutB s i 1 = [b] := by
 unfold cutB; rw [drop_bit h]; rfl
theorem numB_one (b : Bool) : numB [b] = b.toNat := by cases b <;> rfl
set_option maxHeartbeats 2000000 in
set_option maxRecDepth 100000 in
theorem bookNext (ls bs : List Nat) (v : Value) (g : Nat) (s : ByteArray) (i : Nat) (w : World) (h : LOk ls) (hb : BkOk ls bs 256) (hv : SeqAt w v (c8 bs)) (hr : BrAt w g s i) :
  Calls Try.prog 58 #[.agg (bkC (cnA ls 256) v).toArray, .pointer (some ⟨g, 0, none⟩)] w fun e w' =>
   e = .returned (.tuple #[.int .u8 (((nxS ls 56 1 0 ((allB s).drop i)).1.elim 0 fun p => bs.getD p 0 : Nat) : Int), .bool (nxS ls 56 1 0 ((allB s).drop i)).1.isSome]) ∧ BrAt w' g s (i + (nxS ls 56 1 0 ((allB s).drop i)).2) ∧ Kept (oneRow g) w w' := by
 obtain ⟨A, cp, rfl, hq1, hq2, hq3⟩ := hv
 rw [c8_length] at hq1
 have hC : bs.length ≤ 256 := by rw [hb.1]; unfold cod; omega
 unfold maxLen at hq2
 obtain ⟨T, hT⟩ : ∃ T, T = bkC (cnA ls 256) (.slice A (c8 bs).length cp) := ⟨_, rfl⟩
 have hTl : T.length = 58 := by rw [hT, bkC_length (cnA_length ls 256)]
 rw [← hT]
 have HT := Lib.hid hT
 have HB := Lib.hid hb
 have H := Lib.hid h
 have hbl := Lib.hid (c8_length bs)
 have HQ := Lib.hid hq3
 have LT := Lib.hid (Lies.made w 58 T.toArray)
 have HR := Lib.hid (hr.kept (Kept.alloc noRow w (.cells T.toArray 58)) (fun h => h))
 have HK := Lib.hid (Kept.alloc (oneRow g) w (.cells T.toArray 58))
 have hgl := hr.lt
 have HBR := Lib.hid hr
 obtain ⟨gt, hgt⟩ : ∃ gt, gt = w.heap.size := ⟨_, rfl⟩
 have hsz : (w.alloc (.cells T.toArray 58)).heap.size = gt + 1 := by simp [hgt]
 rw [← hgt] at LT hgl
 have HGT := Lib.hid hgt
 clear hT hb h hr hq3 hgt
 go_enter Try.func58, Try.ntmps58
 go_wp2_with fail
 rw [← HGT.out]
 have HQ2 : Hid (∀ (k : Nat) (u : Value), (c8 bs)[k]? = some u → ∃ b off, A = some ⟨b, off, none⟩ ∧ (w.alloc (.cells T.toArray 58)).cell? ⟨b, off + k, none⟩ = some u ∧ b < gt ∧ b ≠ g) := fun k u hu => by
  obtain ⟨b, off, he, hc⟩ := HQ.out k u hu
  have hlt := World.block_lt_of_cell? w _ hc
  rw [← HGT.out] at hlt
  exact ⟨b, off, he, (((Below.refl _ _).alloc (Nat.le_refl _) (.cells T.toArray 58)).cell (p := ⟨b, off + k, none⟩) (by rw [← HGT.out]; exact hlt)).trans hc, hlt, br_ne HBR.out hu hc⟩
 clear HQ HGT
 generalize w.alloc (.cells T.toArray 58) = w1 at *
 go_loopw [6, 7, 8] (fun ab ps ln wr => ∃ k a : Nat, 1 ≤ k ∧ k ≤ 57 ∧ a < 2 ^ (k - 1) ∧ ln = .int .i64 k ∧ ab = .int .i64 a ∧ ps = .int .i64 (pre ls k : Nat) ∧ i + (k - 1) ≤ 8 * s.size ∧
   Hid (nxS ls 56 1 0 ((allB s).drop i) = ((nxS ls (57 - k) k a ((allB s).drop (i + (k - 1)))).1, (nxS ls (57 - k) k a ((allB s).drop (i + (k - 1)))).2 + (k - 1))) ∧ BrAt wr g s (i + (k - 1)) ∧ Kept (oneRow g) w1 wr)
  (fun _ _ ln _ => 57 - (intOf ln).toNat)
 case atStart => exact ⟨1, 0, by omega, by omega, by decide, rfl, rfl, rfl, HR.out.2.1, rfl, HR.out, Kept.refl _ _⟩
 case round =>
  clear HR
  obtain ⟨k, a, hk1, hk, ha, rfl, rfl, rfl, hil, hN, hr, hkk⟩ := hrel
  have HR := Lib.hid hr
  have HKK := Lib.hid hkk
  have hs40 := hr.2.2
  have lt := LT.out.kept hkk (fun e => by have h1 : gt = g := e; omega)
  have LTR := Lib.hid lt
  clear hr hkk lt
  by_cases hlt : k < 57
  ·have hki : (k : Int) ≤ 56 := by omega
   by_cases he : i + (k - 1) < 8 * s.size
   ·obtain ⟨b, hbit⟩ : ∃ b, (allB s)[i + (k - 1)]? = some b := ⟨_, List.getElem?_eq_getElem (by rw [allB_length]; exact he)⟩
    have hd := drop_bit hbit
    have hTO := bitsTakeOk g s (i + (k - 1)) 1 wr HR.out (by omega) (by omega)
    rw [cutB_one hbit, numB_one] at hTO
    have hNN := hN.out
    rw [hd, show 57 - k = (56 - k) + 1 by omega, nxS] at hNN
    have hcn : (cnA ls 256)[k]? = some (ls.count k) := by
     have := mapR_get (n := 57) (fun k => if k = 0 then 0 else ct ls k 256) (i := k) hlt
     rw [if_neg (by omega), ct_all ls k 256 (by rw [H.out.1]; exact Nat.le_refl _)] at this
     exact this
    have hcl := ls_cnt ls H.out.1 k
    have hpl := pre_le_all H.out (k := k) (by omega)
    have hps : pre ls (k + 1) = pre ls k + ls.count k := by rw [pre, if_neg (by omega)]
    have hpt := sum_counts ls 57 (fun x hx => by have := H.out.2 x hx; omega)
    have hpm := pre_le ls (show k + 1 ≤ 57 by omega)
    have hbl2 : bs.length = 256 - ls.count 0 := by rw [HB.out.1]; unfold cod; rw [ct_all ls 0 256 (by rw [H.out.1]; exact Nat.le_refl _)]
    have hl256 := H.out.1
    have ha2 : 2 * a + b.toNat < 2 ^ k := by
     have e : 2 ^ k = 2 * 2 ^ (k - 1) := by rw [← Nat.pow_succ']; congr 1; omega
     have : b.toNat ≤ 1 := by cases b <;> decide
     omega
    have ha3 : 2 ^ k ≤ 2 ^ 56 := Nat.pow_le_pow_right (by decide) (by omega)
    have ha4 : (2 : Nat) ^ 56 = 72057594037927936 := by decide
    have hai : (a : Int) * 2 + ((b.toNat : Nat) : Int) = ((2 * a + b.toNat : Nat) : Int) := by omega
    have hbt : b.toNat ≤ 1 := by cases b <;> decide
    obtain ⟨a', ha'⟩ : ∃ a', a' = 2 * a + b.toNat := ⟨_, rfl⟩
    rw [← ha'] at hNN ha2 hai
    have ha5 : a' < 72057594037927936 := by omega
    have ha6 : a < 72057594037927936 := by omega
    obtain ⟨bb, hbb⟩ : ∃ bb, bb = b.toNat := ⟨_, rfl⟩
    rw [← hbb] at hTO hai hbt
    have HTO := Lib.hid hTO
    have HNN := Lib.hid hNN
    have HPS := Lib.hid hps
    have HCN := Lib.hid hcn
    have HA2 := Lib.hid ha2
    clear hTO hNN hcn hd hN hbit ha' ha4 ha3 hbb hps ha2 ha
    obtain ⟨c, hc⟩ : ∃ c, c = ls.count k := ⟨_, rfl⟩
    rw [← hc] at HNN HPS hcl HCN
    obtain ⟨P, hP⟩ : ∃ P, P = pre ls k := ⟨_, rfl⟩
    rw [← hP] at HNN HPS hpl ⊢
    have HPP := Lib.hid hP
    have hroom : P + c ≤ bs.length := by have := HPS.out; omega
    clear hpt hpm hbl2 hl256 hc hP
    go_wp2_with fail
    refine HTO.out.mono ?_
    rintro e w2 ⟨rfl, hr2, hk2⟩
    have HR2 := Lib.hid hr2
    have HK2 := Lib.hid (HKK.out.trans hk2 (fun _ _ h => h))
    have lt2 := LTR.out.kept hk2 (fun e => by have h1 : gt = g := e; omega)
    have ck : w2.cell? ⟨gt, k, none⟩ = some (.int .i64 (c : Int)) := (lt2.cell k).trans (by rw [List.getElem?_toArray, HT.out]; exact bkC_get HCN.out)
    have c57 : w2.cell? ⟨gt, 57, none⟩ = some (.slice A (c8 bs).length cp) := (lt2.cell 57).trans (by rw [List.getElem?_toArray, HT.out]; exact bkC_last (cnA_length ls 256))
    rw [hbl.out] at c57
    have hk57 : (k : Int) < 57 := by omega
    clear hr2 hk2 lt2 HTO
    by_cases hac : a' < c
    ·have e1 : decide ((a' : Int) < (c : Int)) = true := by simp; omega
     have e2 : decide (a' < c) = true := by simpa using hac
     obtain ⟨x, hx⟩ : ∃ x, bs[P + a']? = some x := ⟨_, List.getElem?_eq_getElem (by omega)⟩
     obtain ⟨q, off, rfl, cq0, hqg, hqn⟩ := HQ2.out (P + a') _ (c8_get hx)
     have cq : w2.cell? ⟨q, off + (P + a'), none⟩ = some (.int .u8 (x : Int)) := by
      have hat := HK2.out.at_ q (by rw [hsz]; omega) (fun e => hqn e)
      have : w2.cell? ⟨q, off + (P + a'), none⟩ = w1.cell? ⟨q, off + (P + a'), none⟩ := by simp only [World.cell?, hat]
      rw [this]; exact cq0
     have hgx : bs.getD (P + a') 0 = x := getD_of hx
     have hNX := HNN.out
     rw [if_pos hac] at hNX
     have HNX := Lib.hid hNX
     have HGX := Lib.hid hgx
     have hPa : (P : Int) + (a' : Int) < (bs.length : Int) := by omega
     have hPa2 : P + a' < bs.length := by omega
     clear hNX hgx hx cq0 HNN hac hroom
     go_wp2
     go_ret2
     exact ⟨by rw [HNX.out]; show _ = Ending.returned (.tuple #[.int .u8 ((bs.getD (P + a') 0 : Nat) : Int), .bool true]); rw [HGX.out]; rfl, by rw [HNX.out, show i + (1 + (k - 1)) = i + (k - 1) + 1 by omega]; exact HR2.out, HK.out.trans HK2.out (fun _ _ h => h)⟩
    ·have e1 : decide ((a' : Int) < (c : Int)) = false := by simp; omega
     have e2 : decide (a' < c) = false := by simpa using hac
     have hsub : (a' : Int) - (c : Int) = ((a' - c : Nat) : Int) := by omega
     have hNX := HNN.out
     rw [if_neg hac] at hNX
     have HNX := Lib.hid hNX
     have hs2 : i + (k - 1) + 1 = i + (k + 1 - 1) := by omega
     have HS2 := Lib.hid hs2
     clear hNX HNN hac hroom hs2
     go_wp2_with fail
     go_roundw
     case rel =>
      refine ⟨k + 1, a' - c, by omega, by omega, ?_, by go_num, by go_num, by rw [HPS.out]; go_num, by omega, ?_, by rw [← HS2.out]; exact HR2.out, HK2.out⟩
      ·have := HA2.out
       show a' - c < 2 ^ k
       omega
      ·show _ = _
       rw [HNX.out, ← HS2.out, show 57 - (k + 1) = 56 - k by omega]
       exact Prod.ext rfl (by show _ + 1 + (k - 1) = _ + (k + 1 - 1); omega)
     case measure => simp [intOf]; omega
   ·have hie : i + (k - 1) = 8 * s.size := by omega
    have hd : (allB s).drop (i + (k - 1)) = [] := List.drop_of_length_le (by rw [allB_length]; omega)
    have hNN := hN.out
    rw [hd, nxS_nil] at hNN
    have HNN := Lib.hid hNN
    have hTE := bitsTakeEnd g s (i + (k - 1)) 1 _ HR.out (by omega) (by omega)
    have HTE := Lib.hid hTE
    clear hN hNN hd hTE
    go_wp2_with fail
    refine HTE.out.mono ?_
    rintro e w2 ⟨rfl, m, rfl⟩
    go_wp2
    go_ret2
    exact ⟨by rw [HNN.out]; rfl, by rw [HNN.out]; simpa using HR.out.kept (Kept.drewN noRow _ m) (fun h => h), (HK.out.trans HKK.out (fun _ _ h => h)).trans (Kept.drewN _ _ m) (fun _ _ h => h)⟩
  ·obtain rfl : k = 57 := by omega
   have hNN := hN.out
   rw [show 57 - 57 = 0 from rfl, nxS_zero] at hNN
   have HNN := Lib.hid hNN
   clear hN hNN ha
   go_wp2
   go_ret2
   exact ⟨by rw [HNN.out]; rfl, by rw [HNN.out, Nat.zero_add]; exact HR.out, HK.out.trans HKK.out (fun _ _ h => h)⟩
theorem pre_class (ls : List Nat) : ∀ m p, p < pre ls m → ∃ k, 0 < k ∧ k < m ∧ pre ls k ≤ p ∧ p < pre ls k + ls.count k
 | 0, p, h => by rw [pre] at h; omega
 | m + 1, p, h => by
  by_cases hp : p < pre ls m
  ·obtain ⟨k, h1, h2, h3⟩ := pre_class ls m p hp
   exact ⟨k, h1, by omega, h3⟩
  ·rw [pre] at h
   by_cases hm : m = 0
   ·rw [if_pos hm] at h; omega
   ·rw [if_neg hm] at h; exact ⟨m, by omega, by omega, by omega, h⟩
theorem pos_of {ls : List Nat} (hl : ls.length = 256) (h56 : ∀ x ∈ ls, x ≤ 56) {p : Nat} (h : p < cod ls 256) : ∃ i k, i < 256 ∧ 0 < k ∧ ls[i]? = some k ∧ pre ls k + ct ls k i = p := by
 have h1 := sum_counts ls 57 (fun x hx => by have := h56 x hx; omega)
 unfold cod at h
 rw [ct_all ls 0 256 (by omega)] at h
 obtain ⟨k, h2, h3, h4, h5⟩ := pre_class ls 57 p (by omega)
 obtain ⟨i, hi, hk, hc⟩ := ct_nth ls k 256 (p - pre ls k) (by rw [ct_all ls k 256 (by omega)]; omega)
 exact ⟨i, k, hi, h2, hk, by omega⟩
theorem bk_uniq {ls a b : List Nat} (hl : ls.length = 256) (h56 : ∀ x ∈ ls, x ≤ 56) (ha : BkOk ls a 256) (hb : BkOk ls b 256) : a = b := by
 apply List.ext_getElem?
 intro p
 by_cases hp : p < cod ls 256
 ·obtain ⟨i, k, hi, hk, hg, he⟩ := pos_of hl h56 hp
  rw [← he, ha.2 i k hi hg hk, hb.2 i k hi hg hk]
 ·rw [List.getElem?_eq_none (by rw [ha.1]; omega), List.getElem?_eq_none (by rw [hb.1]; omega)]
def byS (ls : List Nat) : Nat → List Nat
 | 0 => List.replicate (cod ls 256) 0
 | b + 1 => if ls.getD b 0 = 0 then byS ls b else (byS ls b).set (pre ls (ls.getD b 0) + ct ls (ls.getD b 0) b) b
def byL (ls : List Nat) : List Nat := byS ls 256
theorem byS_ok {ls : List Nat} (hl : ls.length = 256) (h56 : ∀ x ∈ ls, x ≤ 56) : ∀ b, b ≤ 256 → BkOk ls (byS ls b) b
 | 0, _ => ⟨by simp [byS], fun i k hi => by omega⟩
 | b + 1, h => by
  have ih := byS_ok hl h56 b (by omega)
  have hg := get_of (ls := ls) (i := b) (by omega)
  unfold byS
  split
  ·next h0 => rw [h0] at hg; exact bkOk_same ih hg
  ·next h0 => exact bkOk_step ih hg (by omega) (pre_room hl h56 (by omega) hg)
theorem byL_ok {ls : List Nat} (hl : ls.length = 256) (h56 : ∀ x ∈ ls, x ≤ 56) : BkOk ls (byL ls) 256 := byS_ok hl h56 256 (Nat.le_refl _)
theorem byS_lt (ls : List Nat) : ∀ b, b ≤ 256 → ∀ x ∈ byS ls b, x < 256
 | 0, _, x, hx => by rw [byS] at hx; rw [List.eq_of_mem_replicate hx]; decide
 | b + 1, h, x, hx => by
  unfold byS at hx
  split at hx
  ·exact byS_lt ls b (by omega) x hx
  ·rcases List.mem_or_eq_of_mem_set hx with hx | rfl
   ·exact byS_lt ls b (by omega) x hx
   ·omega
theorem byL_lt (ls : List Nat) : ∀ x ∈ byL ls, x < 256 := byS_lt ls 256 (Nat.le_refl _)
theorem byL_getD (ls : List Nat) (p : Nat) : (byL ls).getD p 0 < 256 := by
 rw [List.getD_eq_getElem?_getD]
 rcases hq : (byL ls)[p]? with _ | q
 ·decide
 ·exact byL_lt ls q (List.mem_of_getElem? hq)
def doneB (s : ByteArray) (i : Nat) : Bool := decide (8 * s.size - i < 8 ∧ numB (cutB s i (8 * s.size - i)) = 0)
def doneE (s : ByteArray) (i : Nat) : Nat := if doneB s i = true then 0 else 3
set_option maxHeartbeats 1000000 in
theorem bitsDone (g : Nat) (s : ByteArray) (i : Nat) (w : World) (h : BrAt w g s i) : Calls Try.prog 59 #[.pointer (some ⟨g, 0, none⟩)] w fun e w' =>
  e = .returned (.int .i64 (doneE s i : Nat)) ∧ Below w.heap.size w w' := by
 have HL := Lib.hid (fun n => bitsLeft g s i (w.drewN n) h)
 have H := Lib.hid h
 have hi := h.2.1
 have hs := h.2.2
 have c0 := (h.1.cell 0).trans (show _ = some (Value.string s) from rfl)
 have c1 := (h.1.cell 1).trans (show _ = some (Value.int .i64 (i : Int)) from rfl)
 clear h
 by_cases h8 : 8 ≤ 8 * s.size - i
 ·have hE : doneE s i = 3 := by unfold doneE doneB; rw [decide_eq_false (by omega), if_neg (by decide)]
  have HE := Lib.hid hE
  have e0 : decide ((8 : Int) ≤ ((8 * s.size - i : Nat) : Int)) = true := by rw [decide_eq_true_eq]; omega
  clear hE
  go_enter Try.func59, Try.ntmps59
  go_wp2_with fail
  refine (HL.out 0).mono ?_
  rintro e w' ⟨rfl, n, rfl⟩
  go_wp2
  go_ret
  exact ⟨by rw [HE.out]; rfl, below_drewN (Below.refl _ _) _⟩
 ·have e0 : decide ((8 : Int) ≤ ((8 * s.size - i : Nat) : Int)) = false := by rw [decide_eq_false_iff_not]; omega
  have hE : doneE s i = if numB (cutB s i (8 * s.size - i)) = 0 then 0 else 3 := by
   unfold doneE doneB
   by_cases hz : numB (cutB s i (8 * s.size - i)) = 0
   ·rw [decide_eq_true ⟨by omega, hz⟩, if_pos rfl, if_pos hz]
   ·rw [decide_eq_false (fun h => hz h.2), if_neg (by decide), if_neg hz]
  have HE := Lib.hid hE
  have hT := fun g' w' (hr : BrAt w' g' s i) => bitsTakeOk g' s i (8 * s.size - i) w' hr (by omega) (by omega)
  have HT := Lib.hid hT
  obtain ⟨N, hN⟩ : ∃ N, N = numB (cutB s i (8 * s.size - i)) := ⟨_, rfl⟩
  rw [← hN] at HT HE
  obtain ⟨L, hL⟩ : ∃ L, L = 8 * s.size - i := ⟨_, rfl⟩
  rw [← hL] at HT HL e0
  have HLE := Lib.hid hL
  clear hE hT hN hL
  go_enter Try.func59, Try.ntmps59
  go_wp2_with fail
  refine (HL.out 0).mono ?_
  rintro e w1 ⟨rfl, n, hw1⟩
  have hb1 : Below w.heap.size w w1 := by rw [hw1]; exact below_drewN (Below.refl _ _) _
  have h1 := H.out.later hb1
  have c0 := (h1.1.cell 0).trans (show _ = some (Value.string s) from rfl)
  have c1 := (h1.1.cell 1).trans (show _ = some (Value.int .i64 (i : Int)) from rfl)
  have HL1 := Lib.hid (fun n => bitsLeft g s i (w1.drewN n) h1)
  have hbA := hb1.alloc hb1.size (.cells #[.string s, .int .i64 (i : Int)] 126)
  have hrA : BrAt (w1.alloc (.cells #[.string s, .int .i64 (i : Int)] 126)) w1.heap.size s i := ⟨Lies.made _ _ _, hi, hs⟩
  have hgA := h1.later ((Below.refl w1.heap.size w1).alloc (Nat.le_refl _) (.cells #[.string s, .int .i64 (i : Int)] 126))
  have HRA := Lib.hid hrA
  have HGA := Lib.hid hgA
  have hg1 : w.heap.size ≤ w1.heap.size := hb1.size
  clear hw1 h1 HL hrA hgA H
  go_wp2_with fail
  generalize w1.alloc (.cells #[.string s, .int .i64 (i : Int)] 126) = w2 at *
  generalize w1.heap.size = g2 at *
  have HL2 := Lib.hid (bitsLeft g s i w2 HGA.out)
  rw [← HLE.out] at HL2
  clear c0 c1 HL1 hb1
  refine HL2.out.mono ?_
  rintro e w3 ⟨rfl, n3, hw3⟩
  have hr3 : BrAt w3 g2 s i := by rw [hw3]; exact HRA.out
  have hb3 : Below w.heap.size w w3 := by rw [hw3]; exact below_drewN hbA _
  have HT3 := Lib.hid (HT.out g2 w3 hr3)
  clear hw3 hr3 HL2 HRA HGA hbA HT
  go_wp2_with fail
  refine HT3.out.mono ?_
  rintro e w4 ⟨rfl, _, hk4⟩
  have hb4 : Below w.heap.size w w4 := hb3.trans (hk4.below (by have := hb3.size; omega) (fun k hk (e : k = g2) => by omega))
  clear hk4 HT3
  by_cases hz : N = 0
  ·have hE := HE.out
   rw [if_pos hz] at hE
   have HE2 := Lib.hid hE
   have e5 : ((N : Int) != 0) = false := by simp; omega
   clear hE hz HE
   go_wp2
   go_ret
   exact ⟨by rw [HE2.out]; rfl, hb4⟩
  ·have hE := HE.out
   rw [if_neg hz] at hE
   have HE2 := Lib.hid hE
   have e5 : ((N : Int) != 0) = true := by simp; omega
   clear hE hz HE
   go_wp2
   go_ret
   exact ⟨by rw [HE2.out]; rfl, hb4⟩
def dcD (ls : List Nat) (l : List Bool) : Nat → Nat → List UInt8 × Nat × Bool
 | 0, i => ([], i, true)
 | n + 1, i =>
  match (nxS ls 56 1 0 (l.drop i)).1 with
  | none => ([], i + (nxS ls 56 1 0 (l.drop i)).2, false)
  | some p => (UInt8.ofNat ((byL ls).getD p 0) :: (dcD ls l n (i + (nxS ls 56 1 0 (l.drop i)).2)).1, (dcD ls l n (i + (nxS ls 56 1 0 (l.drop i)).2)).2.1, (dcD ls l n (i + (nxS ls 56 1 0 (l.drop i)).2)).2.2)
def dcT (ls : List Nat) (s : ByteArray) (n : Nat) : List UInt8 := if (dcD ls (allB s) n 0).2.2 = true then (dcD ls (allB s) n 0).1 else []
def dcB (ls : List Nat) (s : ByteArray) (n : Nat) : Bool := (dcD ls (allB s) n 0).2.2 && decide (doneE s (dcD ls (allB s) n 0).2.1 = 0)
theorem dcD_length (ls : List Nat) (l : List Bool) : ∀ n i, (dcD ls l n i).1.length ≤ n
 | 0, i => by simp [dcD]
 | n + 1, i => by
  unfold dcD
  split
  ·simp
  ·have := dcD_length ls l n (i + (nxS ls 56 1 0 (l.drop i)).2)
   simp only [List.length_cons]; omega
theorem dcT_length (ls : List Nat) (s : ByteArray) (n : Nat) : (dcT ls s n).length ≤ n := by
 unfold dcT; split
 ·exact dcD_length _ _ _ _
 ·exact Nat.zero_le _
theorem dcD_zero (ls : List Nat) (l : List Bool) (i : Nat) : dcD ls l 0 i = ([], i, true) := rfl
theorem dcD_none {ls : List Nat} {l : List Bool} {n i : Nat} (h : (nxS ls 56 1 0 (l.drop i)).1 = none) : dcD ls l (n + 1) i = ([], i + (nxS ls 56 1 0 (l.drop i)).2, false) := by
 unfold dcD; rw [h]
theorem dcD_some {ls : List Nat} {l : List Bool} {n i p : Nat} (h : (nxS ls 56 1 0 (l.drop i)).1 = some p) : dcD ls l (n + 1) i =
  (UInt8.ofNat ((byL ls).getD p 0) :: (dcD ls l n (i + (nxS ls 56 1 0 (l.drop i)).2)).1, (dcD ls l n (i + (nxS ls 56 1 0 (l.drop i)).2)).2.1, (dcD ls l n (i + (nxS ls 56 1 0 (l.drop i)).2)).2.2) := by
 conv => lhs; unfold dcD
 rw [h]
set_option maxHeartbeats 2000000 in
set_option maxRecDepth 100000 in
theorem huffDecode (ls : List Nat) (s : ByteArray) (n : Nat) (w : World) (h : LOk ls) (hs : s.size ≤ 1099511627776) (hn : n ≤ 1099511627776) :
  Calls Try.prog 44 #[.string s, .agg (c8 ls).toArray, .int .u64 n] w fun e w' => e = .returned (.tuple #[.string (textB (dcT ls s n)), .bool (dcB ls s n)]) ∧ Below w.heap.size w w' := by
 have hbk := fun w => huffNewBook ls w h
 have hby := byL_ok h.1 h.2
 have hlen : (c8 ls).length = 256 := by rw [c8_length]; exact h.1
 obtain ⟨L, hL⟩ : ∃ L, L = c8 ls := ⟨_, rfl⟩
 rw [← hL] at hlen hbk ⊢
 have hi1 : (Try.prog.info? 27).map (·.size) = some L.length := by rw [hlen]; exact info8
 have H := Lib.hid h
 have HBK := Lib.hid hbk
 have HBY := Lib.hid hby
 have HI1 := Lib.hid hi1
 have l0 := Lies.made w 27 L.toArray
 have hb0 := (Below.refl w.heap.size w).alloc (Nat.le_refl _) (.cells L.toArray 27)
 have L0 := Lib.hid l0
 have HB0 := Lib.hid hb0
 have hsz : (w.alloc (.cells L.toArray 27)).heap.size = w.heap.size + 1 := by simp
 have HSZ := Lib.hid hsz
 have HDT : Hid (dcT ls s n = if (dcD ls (allB s) n 0).2.2 = true then (dcD ls (allB s) n 0).1 else []) := rfl
 have HDB : Hid (dcB ls s n = ((dcD ls (allB s) n 0).2.2 && decide (doneE s (dcD ls (allB s) n 0).2.1 = 0))) := rfl
 clear hbk hby hL hi1 l0 hb0 hsz h
 go_enter Try.func44, Try.ntmps44
 go_wp2_with fail
 generalize w.alloc (.cells L.toArray 27) = w1 at *
 refine (bitsNew s w1 hs).mono ?_
 rintro e w2 ⟨rfl, hr2, hk2⟩
 have L2 := Lib.hid (L0.out.kept hk2 (fun h => h))
 have hz2 : w.heap.size + 1 ≤ w2.heap.size := by have := hk2.size; rw [HSZ.out] at this; exact this
 have HB2 := Lib.hid (HB0.out.trans (hk2.below (B := w.heap.size) (by rw [HSZ.out]; omega) (fun _ _ h => h)))
 have HR2 := Lib.hid hr2
 have hrl := hr2.lt
 have hgr : w.heap.size + 1 ≤ w1.heap.size := by rw [HSZ.out]; exact Nat.le_refl _
 obtain ⟨gr, hgrr⟩ : ∃ gr, gr = w1.heap.size := ⟨_, rfl⟩
 rw [← hgrr] at HR2 hrl hgr ⊢
 have HRG := Lib.hid (arr_range L2.out)
 clear hr2 hk2 L0 HB0 HSZ hgrr
 go_wp2_with (refine wpList_load_mid rfl 27 _ rfl w.heap.size 0 rfl L _ HRG.out under8 rfl HI1.out ?_)
 refine (HBK.out w2).mono ?_
 rintro e w3 ⟨v, bs, rfl, hown, hbs, hb3⟩
 obtain rfl : bs = byL ls := bk_uniq H.out.1 H.out.2 hbs HBY.out
 have HR3 := Lib.hid (HR2.out.later hb3)
 have HB3 := Lib.hid (HB2.out.trans (hb3.mono (by omega)))
 have hz3 : w2.heap.size ≤ w3.heap.size := hb3.size
 have HO3 := Lib.hid hown
 obtain ⟨T, hT⟩ : ∃ T, T = bkC (cnA ls 256) v := ⟨_, rfl⟩
 have hTl : T.length = 58 := by rw [hT, bkC_length (cnA_length ls 256)]
 obtain ⟨A, cp, hv, _⟩ := (SeqS.of_owns hown).form
 have hone : T.toArray.all (·.oneCell') = true := by
  rw [hT, hv]
  refine all_oneCell_toArray (fun v hv => ?_)
  unfold bkC at hv
  rcases List.mem_append.1 hv with hv | hv
  ·obtain ⟨i, _, rfl⟩ := List.mem_map.1 hv; rfl
  ·rw [List.mem_singleton.1 hv]; rfl
 have hnx := fun g i w hv hr => bookNext ls (byL ls) v g s i w H.out HBY.out hv hr
 rw [← hT] at hnx ⊢
 obtain ⟨zb, hzb⟩ : ∃ zb : Array Value, zb = Array.replicate 57 (.int .i64 0) ++ #[.slice none 0 0] := ⟨_, rfl⟩
 have hzbk := zeroBk
 rw [← hzb] at hzbk
 have hzbs : zb.size = 58 := by rw [hzb]; simp
 have hi4 : (Try.prog.info? 58).map (·.size) = some T.toArray.size := by rw [List.size_toArray, hTl]; exact infoBk
 have hi5 : (Try.prog.info? 58).map (·.size) = some T.length := by rw [hTl]; exact infoBk
 have HI4 := Lib.hid hi4
 have HI5 := Lib.hid hi5
 have HONE := Lib.hid hone
 have HNX := Lib.hid hnx
 have HTH := Lib.hid (arr_there (Lies.made w3 58 zb) (n := T.toArray.size) (hzbs.trans (by rw [List.size_toArray, hTl])))
 have lbk := arr_store (Lies.made w3 58 zb) (L := T) (hzbs.trans hTl.symm)
 have hk4 := (Kept.alloc (oneRow w3.heap.size) w3 (.cells zb 58)).trans (kept_cellsH T 0 _ (g := w3.heap.size)) (fun _ _ h => h)
 have HR4 := Lib.hid (HR3.out.kept hk4 (fun e => by have h1 : gr = w3.heap.size := e; omega))
 have HO4 := Lib.hid (owns_kept HO3.out hk4 (fun q cur _ hl e => by have h1 : q = w3.heap.size := e; have := hl.lt; omega))
 have HB4 := Lib.hid (HB3.out.trans (hk4.below (B := w.heap.size) (by omega) (fun k hk e => by have h1 : k = w3.heap.size := e; omega)))
 have hz4 := size_setCells w3.heap.size T 0 (w3.alloc (.cells zb 58))
 rw [show (w3.alloc (.cells zb 58)).heap.size = w3.heap.size + 1 by simp] at hz4
 have LBK := Lib.hid lbk
 clear hown hbs hb3 hT hTl hone hzb hzbs hi4 hi5 lbk hk4 hnx hv HBK HR3 HB3 HO3 HRG L2 HR2 HB2
 go_wp2_with (refine wpList_store_mid rfl 58 _ _ rfl w3.heap.size 0 T.toArray rfl rfl HTH.out HI4.out HONE.out ?_)
 obtain ⟨gk, hgk⟩ : ∃ gk, gk = w3.heap.size := ⟨_, rfl⟩
 generalize (w3.alloc (.cells zb 58)).setCells w3.heap.size 0 T = w4 at *
 rw [← hgk] at LBK hz4 hz3 ⊢
 have HZ4 := Lib.hid hz4
 clear hgk HTH hzbk hz4
 go_loopw [10] (fun t wr => ∃ (m i : Nat) (acc : List UInt8), acc.length + m = n ∧ wr.ownsRow w4.heap.size 5 1 t acc.length (cellsB acc) ∧
   Hid (dcD ls (allB s) n 0 = (acc ++ (dcD ls (allB s) m i).1, (dcD ls (allB s) m i).2.1, (dcD ls (allB s) m i).2.2)) ∧ BrAt wr gr s i ∧ Kept (oneRow gr) w4 wr)
  (fun t _ => n - lenOfV t)
 case atStart => exact ⟨n, 0, [], by simp, World.ownsRow_nil _ _ _ _, by show _ = _; rw [List.nil_append], HR4.out, Kept.refl _ _⟩
 case round =>
  obtain ⟨m, i, acc, hmn, ho, hD, hr, hk⟩ := hrel
  have HO := Lib.hid ho
  have HR := Lib.hid hr
  have HK := Lib.hid hk
  obtain ⟨A2, cp2, rfl, hq1, hq2, _⟩ := (SeqS.of_owns ho).form
  unfold maxLen at hq2
  obtain ⟨N, hN⟩ : ∃ N, N = acc.length := ⟨_, rfl⟩
  rw [← hN] at hmn hq1 ⊢
  have HNN := Lib.hid hN
  have ho2 := ho
  rw [← hN] at ho2
  have HO2 := Lib.hid ho2
  have hNl : N ≤ 1099511627776 := by omega
  have en : IntKind.u64.wrap (N : Int) = (N : Int) := by rw [IntKind.wrap_u64]; omega
  have lk := LBK.out.kept hk (fun e => by have h1 : gk = gr := e; omega)
  have HRK := Lib.hid (arr_range lk)
  have hob := owns_kept HO4.out hk (fun q cur _ hl e => by
   have h1 : q = gr := e
   subst h1
   exact absurd (hl.same HR4.out.1).1 (by decide))
  have HOB := Lib.hid (SeqAt.of_owns hob)
  have hwz : w4.heap.size ≤ wr.heap.size := hk.size
  clear ho hr hk hN ho2 lk hob
  rcases m with _ | m
  ·have x1 : decide ((N : Int) < (n : Int)) = false := by simp; omega
   have x2 : decide (N < n) = false := by simp; omega
   have hDD := hD.out
   rw [dcD_zero, List.append_nil] at hDD
   have hT1 : dcT ls s n = acc := by rw [HDT.out, hDD]; rfl
   have hB1 : dcB ls s n = decide (doneE s i = 0) := by rw [HDB.out, hDD]; rfl
   have HT1 := Lib.hid hT1
   have HB1 := Lib.hid hB1
   have hBw := HB4.out.trans (HK.out.below (B := w.heap.size) (by rw [HZ4.out]; omega) (fun k hk e => by have h1 : k = gr := e; omega))
   have HBW := Lib.hid hBw
   have hKeep : Hid (∀ a b : World, Below a.heap.size a b → (a.ownsRow w4.heap.size 5 1 (.slice A2 N cp2) acc.length (cellsB acc) ∧ BrAt a gr s i) → (b.ownsRow w4.heap.size 5 1 (.slice A2 N cp2) acc.length (cellsB acc) ∧ BrAt b gr s i)) :=
    fun a b hb h => ⟨owns_below h.1 hb, h.2.later hb⟩
   have HC : Hid (∀ w', ((w'.ownsRow w4.heap.size 5 1 (.slice A2 N cp2) acc.length (cellsB acc) ∧ BrAt w' gr s i) ∧ Below w.heap.size w w' ∧ w.heap.size ≤ w'.heap.size) →
     Calls Try.prog 59 #[.pointer (some ⟨gr, 0, none⟩)] w' fun e w2 => e = .returned (.int .i64 (doneE s i : Nat)) ∧ Below w'.heap.size w' w2) := fun w' h => bitsDone gr s i w' h.1.2
   have HOr : Hid (wr.ownsRow w4.heap.size 5 1 (.slice A2 N cp2) acc.length (cellsB acc)) := by
    have := HO.out
    rw [← HNN.out] at this
    show World.ownsRow _ _ _ _ _ _ _
    rw [← HNN.out]
    exact this
   obtain ⟨E, hE⟩ : ∃ E, E = doneE s i := ⟨_, rfl⟩
   rw [← hE] at HC
   have HE := Lib.hid hE
   have hww : w.heap.size ≤ wr.heap.size := HBW.out.size
   clear hDD hT1 hB1 hBw hD hE
   go_wp2_with fail
   try simp only [Act.put, List.setIfInBounds_toArray, List.set_cons_zero, List.set_cons_succ]
   refine wp_region_held_drew (S := fun x => (x.ownsRow w4.heap.size 5 1 (.slice A2 N cp2) acc.length (cellsB acc) ∧ BrAt x gr s i) ∧ Below w.heap.size w x ∧ w.heap.size ≤ x.heap.size) (by kernel_rfl)
    ⟨⟨HOr.out, HR.out.kept (Kept.drewN noRow wr 1) (fun h => h)⟩, below_drewN HBW.out 1, hww⟩ (fun hHeld => ?_)
   refine wpAnyH_take (i := 0) (v := (.slice A2 N cp2)) rfl (by kernel_rfl) (by kernel_rfl) (by kernel_rfl) (fun _ _ _ h => h) (Or.inl ⟨by rfl, fun w h => by (simp only [List.getElem_toArray, List.getElem_cons_succ, List.getElem_cons_zero]; clear h; go_simp)⟩) (by assumption) ?_
   simp only [Act.put, List.getElem_toArray, List.getElem_cons_succ, List.getElem_cons_zero, List.setIfInBounds_toArray, List.set_cons_zero, List.set_cons_succ]
   refine wpAnyH_take (i := 1) (v := (.string (textB acc))) rfl (by kernel_rfl) (by kernel_rfl) (by kernel_rfl) (fun _ _ _ h => h) (Or.inl ⟨by rfl, fun w h => by (simp only [List.getElem_toArray, List.getElem_cons_succ, List.getElem_cons_zero]; have h1 := convert_owned w w4.heap.size (.slice A2 N cp2) acc acc.length rfl h.1.1; clear h; go_simp)⟩) (by assumption) ?_
   simp only [Act.put, List.getElem_toArray, List.getElem_cons_succ, List.getElem_cons_zero, List.setIfInBounds_toArray, List.set_cons_zero, List.set_cons_succ]
   refine wpAnyH_take (i := 2) (v := (.pointer (some ⟨gr, 0, none⟩))) rfl (by kernel_rfl) (by kernel_rfl) (by kernel_rfl) (fun _ _ _ h => h) (Or.inl ⟨by rfl, fun w h => by (simp only [List.getElem_toArray, List.getElem_cons_succ, List.getElem_cons_zero]; clear h; go_simp)⟩) (by assumption) ?_
   simp only [Act.put, List.getElem_toArray, List.getElem_cons_succ, List.getElem_cons_zero, List.setIfInBounds_toArray, List.set_cons_zero, List.set_cons_succ]
   refine wpAnyH_ready (rs := [3]) (by kernel_rfl) (by simp) ?_
   refine AllReadyH.cons rfl (fun K hK => ?_) AllReadyH.nil
   rw [if_pos (by rfl)]
   go_wp2_with fail
   refine (keep_callS hKeep.out (HC.out _ hHeld) (by assumption)).mono ?_
   rintro e w' ⟨he, q⟩
   cases he
   dsimp only
   refine hK.out _ _ q (fun hHeld => ?_)
   clear hK K
   try simp only [Act.put, List.setIfInBounds_toArray, List.set_cons_zero, List.set_cons_succ]
   refine wpAnyH_take (i := 4) (v := (.bool ((E : Int) == 0))) rfl (by kernel_rfl) (by kernel_rfl) (by kernel_rfl) (fun _ _ _ h => h) (Or.inl ⟨by rfl, fun w h => by (simp only [List.getElem_toArray, List.getElem_cons_succ, List.getElem_cons_zero]; clear h; go_simp)⟩) (by assumption) ?_
   simp only [Act.put, List.getElem_toArray, List.getElem_cons_succ, List.getElem_cons_zero, List.setIfInBounds_toArray, List.set_cons_zero, List.set_cons_succ]
   refine wpAnyH_ready (rs := [5]) (by kernel_rfl) (by simp) ?_
   refine AllReadyH.cons rfl (fun K hK => ?_) AllReadyH.nil
   rw [if_pos (by rfl)]
   go_wp2_with fail
   refine hK.out _ _ (by assumption) (fun hHeld => ?_)
   clear hK K
   try simp only [Act.put, List.setIfInBounds_toArray, List.set_cons_zero, List.set_cons_succ]
   refine wpAnyH_ready (rs := [6]) (by kernel_rfl) (by simp) ?_
   refine AllReadyH.cons rfl (fun K hK => ?_) AllReadyH.nil
   rw [if_pos (by rfl)]
   go_wp2_with fail
   refine hK.out _ _ (by assumption) (fun hHeld => ?_)
   clear hK K
   try simp only [Act.put, List.setIfInBounds_toArray, List.set_cons_zero, List.set_cons_succ]
   refine wpAnyH_done (by kernel_rfl) ?_ _
   go_wp2
   go_ret2
   exact ⟨by rw [HT1.out, HB1.out, ← HE.out, show ((E : Int) == 0) = decide (E = 0) by rw [Bool.eq_iff_iff]; simp]; rfl, And.left (And.right (by assumption))⟩
  ·have x1 : decide ((N : Int) < (n : Int)) = true := by simp; omega
   have x2 : decide (N < n) = true := by simp; omega
   obtain ⟨R, hR⟩ : ∃ R, R = nxS ls 56 1 0 ((allB s).drop i) := ⟨_, rfl⟩
   have HRR := Lib.hid hR
   have hnx := HNX.out gr i wr HOB.out HR.out
   rw [← hR] at hnx
   have HN2 := Lib.hid hnx
   clear hnx hR
   go_wp2_with (refine wpList_load_mid rfl 58 _ rfl gk 0 rfl T _ HRK.out Try.underlying58 rfl HI5.out ?_)
   refine HN2.out.mono ?_
   rintro e w5 ⟨rfl, hr5, hk5⟩
   have HR5 := Lib.hid hr5
   have HK5 := Lib.hid (HK.out.trans hk5 (fun _ _ h => h))
   have ho5 := owns_kept HO2.out hk5 (fun q cur _ hl e => by
    have h1 : q = gr := e
    subst h1
    exact absurd (hl.same HR.out.1).1 (by decide))
   have HO5 := Lib.hid ho5
   have hw5 : w4.heap.size ≤ w5.heap.size := HK5.out.size
   obtain ⟨Ro, Rn⟩ := R
   clear hr5 hk5 ho5 HN2
   cases Ro with
   | none =>
    have hDD := hD.out
    rw [dcD_none (by rw [← HRR.out])] at hDD
    have hT1 : dcT ls s n = [] := by rw [HDT.out, hDD]; rfl
    have hB1 : dcB ls s n = false := by rw [HDB.out, hDD]; rfl
    have HT1 := Lib.hid hT1
    have HB1 := Lib.hid hB1
    simp only [Option.isSome_none, Option.elim_none]
    clear hDD hT1 hB1 hD
    go_wp2
    go_ret2
    exact ⟨by rw [HT1.out, HB1.out]; rfl, HB4.out.trans (HK5.out.below (B := w.heap.size) (by rw [HZ4.out] at *; omega) (fun k hk e => by have h1 : k = gr := e; omega))⟩
   | some p =>
    have hDD := hD.out
    rw [dcD_some (by rw [← HRR.out]), ← HRR.out] at hDD
    simp only at hDD
    have hx := byL_getD ls p
    obtain ⟨x, hxx⟩ : ∃ x, x = (byL ls).getD p 0 := ⟨_, rfl⟩
    rw [← hxx] at hDD hx
    simp only [Option.isSome_some, Option.elim_some]
    rw [← hxx]
    obtain ⟨b, hb⟩ : ∃ b, b = UInt8.ofNat x := ⟨_, rfl⟩
    have hbx : (b.toNat : Int) = (x : Int) := by rw [hb, UInt8.toNat_ofNat']; omega
    rw [← hb] at hDD
    rw [← hbx]
    have HDD := Lib.hid hDD
    clear hDD hxx hb hbx hx hD
    go_wp2_with (at_builtin; refine append_one _ (.int .u8 (b.toNat : Int)) rfl (.tmp 30) (.tmp 32) 30 rfl w4.heap.size 5 _ _ Try.underlying30 Try.infoU8 rfl rfl _ _ _ rfl HO5.out rfl (by unfold maxLen; omega) (by omega) hw5 ?_)
    intro v' w6 ho6 hb6 hgr6
    have hk6 : Kept (oneRow gr) w4 w6 := ⟨hb6.os.trans HK5.out.os, hb6.tape.trans HK5.out.tape, hb6.output.trans HK5.out.output, Nat.le_trans HK5.out.size hb6.size, fun k hk hn => (hb6.block k hk).trans (HK5.out.at_ k hk hn)⟩
    have hr6 := HR5.out.kept (kept_grown hgr6) (fun e => by
     have h2 := (HO5.out.lt gr e).1
     have h3 := HR4.out.lt
     omega)
    have hce : cellsB acc ++ [Value.int .u8 (b.toNat : Int)] = cellsB (acc ++ [b]) := by simp [cellsB]
    rw [hce] at ho6
    have hal : (acc ++ [b]).length = N + 1 := by rw [List.length_append, ← HNN.out]; rfl
    rw [← hal] at ho6
    have hlv : lenOfV v' = N + 1 := by
     obtain ⟨A5, cp5, hv5, _⟩ := (SeqS.of_owns ho6).form
     rw [hv5, hal]; rfl
    have HAL := Lib.hid hal
    have HO6 := Lib.hid ho6
    have HR6 := Lib.hid hr6
    have HK6 := Lib.hid hk6
    clear ho6 hb6 hgr6 hk6 hr6 hce hal
    go_wp2
    go_roundw
    case rel =>
     refine ⟨m, _, acc ++ [b], by rw [HAL.out]; omega, HO6.out, ?_, HR6.out, HK6.out⟩
     show _ = _
     rw [HDD.out, List.append_assoc]
     rfl
    case measure => simp only [lenOfV] at hlv ⊢; omega
def pkB (cds lens : List Nat) (bs : List UInt8) : List Bool := bs.flatMap fun b => putL (cds.getD b.toNat 0) (lens.getD b.toNat 0)
theorem pkB_take {cds lens : List Nat} {bs : List UInt8} {i : Nat} {b : UInt8} (h : bs[i]? = some b) : pkB cds lens (bs.take (i + 1)) = pkB cds lens (bs.take i) ++ putL (cds.getD b.toNat 0) (lens.getD b.toNat 0) := by
 unfold pkB; rw [List.take_add_one, h]; simp
theorem pkB_le (cds lens : List Nat) : ∀ bs : List UInt8, (pkB cds lens bs).length ≤ 64 * bs.length
 | [] => by simp [pkB]
 | b :: bs => by
  have := pkB_le cds lens bs
  have := putL_le (cds.getD b.toNat 0) (lens.getD b.toNat 0)
  unfold pkB at *
  rw [List.flatMap_cons, List.length_append, List.length_cons]; omega
theorem printR_le (l : List Nat) : (printR l).length ≤ 10 + 20 * l.length := by
 unfold printR
 have h1 := (enc_length (packs l).length).2
 have h2 := bodyR_length (packs l)
 have h3 := (packs_in l).1
 rw [List.length_append]; omega
def lnT (bs : List UInt8) : List Nat := lensW (cntL bs)
def cdT (bs : List UInt8) : List Nat := cdsOf (lnT bs)
def pkT (bs : List UInt8) : List UInt8 := enc bs.length ++ (printR (lnT bs) ++ packB (pkB (cdT bs) (lnT bs) bs))
theorem cdsOf_length (ls : List Nat) : (cdsOf ls).length = 256 := by
 unfold cdsOf; split
 ·exact codL_length _
 ·exact List.length_replicate
theorem cdsOf_lt (ls : List Nat) : ∀ x ∈ cdsOf ls, x < 18446744073709551616 := by
 unfold cdsOf
 split
 ·intro x hx
  unfold codL at hx
  obtain ⟨i, _, rfl⟩ := List.mem_map.1 hx
  split
  ·exact Nat.mod_lt _ (by decide)
  ·decide
 ·intro x hx; rw [List.eq_of_mem_replicate hx]; decide
theorem bw_ne_arr {w : World} {B g k : Nat} {t : TypeId} {l : List Bool} {cs : Array Value} (h : BwAt w B g l) (hl : Lies w k t cs) (h1 : t ≠ 62) (h2 : t ≠ 5) : ¬ bwRows w B g k := by
 rintro (rfl | ⟨_, cur, hc⟩)
 ·obtain ⟨v, hv, _⟩ := h
  exact h1 (hl.same hv).1
 ·exact h2 (hl.same hc).1
theorem bw_below {w w' : World} {B g : Nat} (hk : Kept (bwRows w B g) w w') (hB : B ≤ w.heap.size) (hg : B ≤ g) : Below B w w' :=
 hk.below hB (fun k hlt h => by rcases h with h | ⟨h, _⟩ <;> omega)
theorem bwFresh (w : World) (B : Nat) : BwAt (w.alloc (.cells #[.slice none 0 0, .int .i64 0] 62)) B w.heap.size [] :=
 ⟨_, Lies.made _ _ _, World.ownsRow_nil _ _ _ _⟩
theorem zeroBw : ∀ w : World, (zeroValue 62).run Try.prog w = .ok (.agg #[.slice none 0 0, .int .i64 0]) w := fun w => by kernel_rfl
set_option maxHeartbeats 2000000 in
set_option maxRecDepth 100000 in
theorem huffPack (s : ByteArray) (w : World) (hs : s.size ≤ 4294967296) :
  Calls Try.prog 19 #[.string s] w fun e w' => e = .returned (.string (textB (pkT s.data.toList))) ∧ Below w.heap.size w w' := by
 have hsl : s.data.toList.length = s.size := by simp
 have hcnt := fun w => huffCount s w (by omega)
 have hwok : WOk (cntL s.data.toList) := ⟨cntL_length _, fun n hn => by have := cntL_le _ n hn; omega⟩
 have hlen := fun w => huffLengths (cntL s.data.toList) w hwok
 have hll : (lnT s.data.toList).length = 256 := lensW_length _ (cntL_length _)
 have hl256 : ∀ x ∈ lnT s.data.toList, x < 256 := lensW_lt _
 have hcds := fun w => huffCodes (lnT s.data.toList) w hll hl256
 have hwid := fun w => huffWiden (lnT s.data.toList) w hll hl256
 have hcl : (cdT s.data.toList).length = 256 := cdsOf_length _
 have hclt : ∀ x ∈ cdT s.data.toList, x < 18446744073709551616 := cdsOf_lt _
 change ∀ w, Calls Try.prog _ #[.agg (cells64 (cntL s.data.toList)).toArray] w fun e w' => e = .returned (.agg (c8 (lnT s.data.toList)).toArray) ∧ Below w.heap.size w w' at hlen
 change ∀ w, Calls Try.prog _ #[.agg (c8 (lnT s.data.toList)).toArray] w fun e w' => e = .returned (.tuple #[.agg (cells64 (cdT s.data.toList)).toArray, .int .i64 (cdsE (lnT s.data.toList) : Nat)]) ∧ Below w.heap.size w w' at hcds
 have HPK : Hid (pkT s.data.toList = enc s.data.toList.length ++ (printR (lnT s.data.toList) ++ packB (pkB (cdT s.data.toList) (lnT s.data.toList) s.data.toList))) := rfl
 obtain ⟨ls, hls⟩ : ∃ ls, ls = lnT s.data.toList := ⟨_, rfl⟩
 obtain ⟨cd, hcd⟩ : ∃ cd, cd = cdT s.data.toList := ⟨_, rfl⟩
 rw [← hls] at hlen hll hl256 hcds hwid HPK
 rw [← hcd] at hcds hcl hclt HPK
 clear hls hcd
 obtain ⟨L, hL⟩ : ∃ L, L = c8 ls := ⟨_, rfl⟩
 obtain ⟨D, hD⟩ : ∃ D, D = cells64 cd := ⟨_, rfl⟩
 obtain ⟨N, hN⟩ : ∃ N, N = cells64 (cntL s.data.toList) := ⟨_, rfl⟩
 have hLl : L.length = 256 := by rw [hL, c8_length, hll]
 have hDl : D.length = 256 := by rw [hD, c64_length, hcl]
 have hL1 : L.toArray.all (·.oneCell') = true := by rw [hL]; exact c8_one _
 have hD1 : D.toArray.all (·.oneCell') = true := by rw [hD]; exact c64_one _
 rw [← hL] at hlen hcds hwid
 rw [← hD] at hcds
 rw [← hN] at hlen hcnt
 obtain ⟨z8, hz8⟩ : ∃ z : Array Value, z = Array.replicate 256 (.int .u8 0) := ⟨_, rfl⟩
 obtain ⟨z6, hz6⟩ : ∃ z : Array Value, z = Array.replicate 256 (.int .u64 0) := ⟨_, rfl⟩
 have hzz8 := zero8
 have hzz6 := zero64
 have hzbw := zeroBw
 rw [← hz8] at hzz8
 rw [← hz6] at hzz6
 have hn8 : z8.size = 256 := by rw [hz8, Array.size_replicate]
 have hn6 : z6.size = 256 := by rw [hz6, Array.size_replicate]
 have hiL : (Try.prog.info? 27).map (·.size) = some L.length := by rw [hLl]; exact info8
 have hiL2 : (Try.prog.info? 27).map (·.size) = some L.toArray.size := by rw [List.size_toArray, hLl]; exact info8
 have hiD2 : (Try.prog.info? 25).map (·.size) = some D.toArray.size := by rw [List.size_toArray, hDl]; exact info64
 have HIL := Lib.hid hiL
 have HIL2 := Lib.hid hiL2
 have HID2 := Lib.hid hiD2
 have HLEN := Lib.hid hlen
 have HCDS := Lib.hid hcds
 have HWID := Lib.hid hwid
 have HCNT := Lib.hid hcnt
 have HL := Lib.hid hL
 have HD := Lib.hid hD
 have HL1 := Lib.hid hL1
 have HD1 := Lib.hid hD1
 have HLL := Lib.hid hll
 have HCL := Lib.hid hcl
 have H256 := Lib.hid hl256
 have HCLT := Lib.hid hclt
 have HLl := Lib.hid hLl
 have HDl := Lib.hid hDl
 have HN8 := Lib.hid hn8
 have HN6 := Lib.hid hn6
 have HSL := Lib.hid hsl
 clear hlen hcds hwid hcnt hL hD hL1 hD1 hll hcl hl256 hclt hLl hDl hiL hiL2 hiD2 hz8 hz6 hn8 hn6 hwok hN hsl
 go_enter Try.func19, Try.ntmps19
 go_wp2_with fail
 refine (HCNT.out w).mono ?_
 rintro e w1 ⟨rfl, hb1⟩
 go_wp2_with fail
 refine (HLEN.out w1).mono ?_
 rintro e w2 ⟨rfl, hb2⟩
 have hb02 := hb1.trans (hb2.mono hb1.size)
 have hz2 : w.heap.size ≤ w2.heap.size := hb02.size
 have ht2 := arr_there (Lies.made w2 27 z8) (n := L.toArray.size) (HN8.out.trans (by rw [List.size_toArray, HLl.out]))
 have ls3 := arr_store (Lies.made w2 27 z8) (L := L) (HN8.out.trans HLl.out.symm)
 have hk3 := (Kept.alloc (oneRow w2.heap.size) w2 (.cells z8 27)).trans (kept_cellsH L 0 _ (g := w2.heap.size)) (fun _ _ h => h)
 have hb03 := hb02.trans (hk3.below (B := w.heap.size) hz2 (fun k hk e => by have h1 : k = w2.heap.size := e; omega))
 have hz3 := size_setCells w2.heap.size L 0 (w2.alloc (.cells z8 27))
 rw [show (w2.alloc (.cells z8 27)).heap.size = w2.heap.size + 1 by simp] at hz3
 have HT2 := Lib.hid ht2
 have LS3 := Lib.hid ls3
 have HR3 := Lib.hid (arr_range ls3)
 have HB3 := Lib.hid hb03
 have HZ3 := Lib.hid hz3
 clear hb1 hb2 hb02 ht2 ls3 hk3 hb03 hz3 HCNT HLEN
 go_wp2_with (first | refine wpList_store_mid rfl 27 _ _ rfl w2.heap.size 0 L.toArray rfl rfl HT2.out HIL2.out HL1.out ?_ | refine wpList_load_mid rfl 27 _ rfl w2.heap.size 0 rfl L _ HR3.out under8 rfl HIL.out ?_)
 obtain ⟨gL, hgL⟩ : ∃ gL, gL = w2.heap.size := ⟨_, rfl⟩
 generalize (w2.alloc (.cells z8 27)).setCells w2.heap.size 0 L = w3 at *
 rw [← hgL] at LS3 HR3 HZ3 hz2 ⊢
 clear hgL HT2
 refine (HCDS.out w3).mono ?_
 rintro e w4 ⟨rfl, hb4⟩
 have hz34 : gL + 1 ≤ w4.heap.size := by have := hb4.size; rw [HZ3.out] at this; exact this
 have LS4 := Lib.hid (LS3.out.below hb4 (by rw [HZ3.out]; omega))
 have HB4 := Lib.hid (HB3.out.trans (hb4.mono (by rw [HZ3.out]; omega)))
 have ht4 := arr_there (Lies.made w4 25 z6) (n := D.toArray.size) (HN6.out.trans (by rw [List.size_toArray, HDl.out]))
 have lc5 := arr_store (Lies.made w4 25 z6) (L := D) (HN6.out.trans HDl.out.symm)
 have hk5 := (Kept.alloc (oneRow w4.heap.size) w4 (.cells z6 25)).trans (kept_cellsH D 0 _ (g := w4.heap.size)) (fun _ _ h => h)
 have hb5 := HB4.out.trans (hk5.below (B := w.heap.size) (by omega) (fun k hk e => by have h1 : k = w4.heap.size := e; omega))
 have hz5 := size_setCells w4.heap.size D 0 (w4.alloc (.cells z6 25))
 rw [show (w4.alloc (.cells z6 25)).heap.size = w4.heap.size + 1 by simp] at hz5
 have LS5 := Lib.hid (LS4.out.kept hk5 (fun e => by have h1 : gL = w4.heap.size := e; omega))
 have HT4 := Lib.hid ht4
 have LC5 := Lib.hid lc5
 have HB5 := Lib.hid hb5
 clear hb4 ht4 lc5 hk5 hb5 LS3 HB3 HZ3 HR3 LS4 HB4
 go_wp2_with (refine wpList_store_mid rfl 25 _ _ rfl w4.heap.size 0 D.toArray rfl rfl HT4.out HID2.out HD1.out ?_)
 obtain ⟨gC, hgC⟩ : ∃ gC, gC = w4.heap.size := ⟨_, rfl⟩
 generalize (w4.alloc (.cells z6 25)).setCells w4.heap.size 0 D = w5 at *
 rw [← hgC] at LC5 hz5 hz34 ⊢
 clear hgC HT4
 have BW6 := bwFresh w5 w.heap.size
 have LS6 := Lib.hid (LS5.out.alloc (.cells #[.slice none 0 0, .int .i64 0] 62))
 have LC6 := Lib.hid (LC5.out.alloc (.cells #[.slice none 0 0, .int .i64 0] 62))
 have HB6 := Lib.hid (HB5.out.alloc (by omega) (.cells #[.slice none 0 0, .int .i64 0] 62))
 rw [hz5] at BW6
 obtain ⟨gB, hgB⟩ : ∃ gB, gB = gC + 1 := ⟨_, rfl⟩
 rw [← hgB] at BW6 ⊢
 have hgB1 : w.heap.size ≤ gB := by omega
 have HBW6 := Lib.hid BW6
 clear BW6 hz5 LS5 LC5 HB5 hgB hz34 hz2
 generalize w5.alloc (.cells #[.slice none 0 0, .int .i64 0] 62) = w6 at *
 go_loopw [19] (fun c wr => ∃ i : Nat, i ≤ s.size ∧ c = .int .i64 i ∧ BwAt wr w.heap.size gB (pkB cd ls (s.data.toList.take i)) ∧ Lies wr gL 27 L.toArray ∧ Lies wr gC 25 D.toArray ∧ Below w.heap.size w wr)
  (fun c _ => s.size - (intOf c).toNat)
 case atStart => exact ⟨0, by omega, rfl, HBW6.out, LS6.out, LC6.out, HB6.out⟩
 case round =>
  clear HBW6 LS6 LC6 HB6
  obtain ⟨i, hi, rfl, bw, l8, lc, hb⟩ := hrel
  have hbs := hb.size
  have BW := Lib.hid bw
  have LS := Lib.hid l8
  have LC := Lib.hid lc
  have HB := Lib.hid hb
  clear bw l8 lc hb
  by_cases hlt : i < s.size
  ·have hii : (i : Int) < (s.size : Int) := by omega
   have hby := byte_of s i hlt
   have htk := pkB_take (cds := cd) (lens := ls) hby
   have hple := pkB_le cd ls (s.data.toList.take i)
   rw [List.length_take, HSL.out, Nat.min_eq_left (by omega)] at hple
   have hblt := (s[i]'hlt).toNat_lt
   obtain ⟨bq, hbq⟩ : ∃ bq, bq = (s[i]'hlt).toNat := ⟨_, rfl⟩
   obtain ⟨n, hn⟩ : ∃ n, ls[bq]? = some n := ⟨_, List.getElem?_eq_getElem (by rw [HLL.out, hbq]; exact hblt)⟩
   obtain ⟨m, hm⟩ : ∃ m, cd[bq]? = some m := ⟨_, List.getElem?_eq_getElem (by rw [HCL.out, hbq]; exact hblt)⟩
   have hn256 := H256.out n (List.mem_of_getElem? hn)
   have hm64 := HCLT.out m (List.mem_of_getElem? hm)
   rw [← hbq, getD_of hn, getD_of hm] at htk
   have k1 : wr.cell? ⟨gL, bq, none⟩ = some (.int .u8 (n : Int)) := (LS.out.cell bq).trans (by rw [List.getElem?_toArray, HL.out]; exact c8_get hn)
   have k2 : wr.cell? ⟨gC, bq, none⟩ = some (.int .u64 (m : Int)) := (LC.out.cell bq).trans (by rw [List.getElem?_toArray, HD.out]; exact c64_get'' hm)
   rw [hbq] at k1 k2
   have hbi : ((s[i]'hlt).toNat : Int) < 256 := by omega
   have en : IntKind.i64.wrap (n : Int) = (n : Int) := by rw [IntKind.wrap_i64]; omega
   have HTK := Lib.hid htk
   clear hn hm htk hby hbq
   obtain ⟨pl, hpl⟩ : ∃ pl, pl = pkB cd ls (s.data.toList.take i) := ⟨_, rfl⟩
   rw [← hpl] at hple
   have HPL := Lib.hid hpl
   clear hpl
   go_wp2_with fail
   go_still_tail 11, (by kernel_rfl)
   clear k1 k2
   go_wp2_with fail
   refine (bitsPutAny w.heap.size gB m n pl wr.drew (show BwAt wr.drew w.heap.size gB pl by rw [HPL.out]; exact BW.out) hbs (by omega) hm64).mono ?_
   rintro e w8 ⟨⟨x, rfl⟩, bw8, hk8⟩
   have hbw := BW.out
   have l8 := (show Lies wr.drew gL 27 L.toArray from LS.out).kept hk8 (bw_ne_arr (w := wr.drew) (l := pkB cd ls (s.data.toList.take i)) BW.out (cs := L.toArray) (t := 27) LS.out (by decide) (by decide))
   have lc8 := (show Lies wr.drew gC 25 D.toArray from LC.out).kept hk8 (bw_ne_arr (w := wr.drew) (l := pkB cd ls (s.data.toList.take i)) BW.out (cs := D.toArray) (t := 25) LC.out (by decide) (by decide))
   have hb8 : Below w.heap.size w w8 := (show Below w.heap.size w wr.drew from below_drewN HB.out 1).trans (bw_below hk8 hbs hgB1)
   have BW8 := Lib.hid bw8
   have L8 := Lib.hid l8
   have LC8 := Lib.hid lc8
   have HB8 := Lib.hid hb8
   clear bw8 l8 lc8 hb8 hk8 hbw
   go_wp2
   go_roundw
   case rel => exact ⟨i + 1, by omega, by go_num, by rw [HTK.out, ← HPL.out]; exact BW8.out, L8.out, LC8.out, HB8.out⟩
   case measure => simp [intOf]; omega
  ·obtain rfl : i = s.size := by omega
   have BWF := BW.out
   rw [List.take_of_length_le (by rw [HSL.out]; exact Nat.le_refl _)] at BWF
   have hple := pkB_le cd ls s.data.toList
   rw [HSL.out] at hple
   obtain ⟨pl, hpl⟩ : ∃ pl, pl = pkB cd ls s.data.toList := ⟨_, rfl⟩
   rw [← hpl] at hple BWF HPK
   have HBW := Lib.hid BWF
   have hpb := packB_length pl
   have hen := (enc_length s.size).2
   have hW0 := WrAt.fresh wr wr.heap.size (Nat.le_refl _)
   have hb0 := (Below.refl wr.heap.size wr).alloc (Nat.le_refl _) (.cells #[.slice none 0 0] 65)
   have HW0 := Lib.hid hW0
   have HB0 := Lib.hid hb0
   have HE := Lib.hid hen
   have hzw : wr.heap.size < (wr.alloc (.cells #[.slice none 0 0] 65)).heap.size := by simp
   have eu : IntKind.u64.wrap (s.size : Int) = (s.size : Int) := by rw [IntKind.wrap_u64]; omega
   obtain ⟨gW, hgW⟩ : ∃ gW, gW = wr.heap.size := ⟨_, rfl⟩
   rw [← hgW] at HW0
   have hLlt := LS.out.lt
   have HGW := Lib.hid hgW
   clear hgW hpl hW0 hb0 hen BWF BW
   have hgWn : gW = wr.heap.size := HGW.out
   clear hgWn
   go_wp2_with fail
   rw [← HGW.out]
   generalize wr.alloc (.cells #[.slice none 0 0] 65) = w0 at *
   refine (varintPrint s.size w0 (by unfold M64; omega)).mono ?_
   rintro e wa ⟨rfl, hba⟩
   have HWa := Lib.hid (HW0.out.later hba)
   have HBa := Lib.hid (HB0.out.trans (hba.mono (Nat.le_of_lt hzw)))
   clear hba
   go_wp2_with fail
   refine (octetText gW gW ByteArray.empty (textB (enc s.size)) wa HWa.out (by rw [textB_size, show ByteArray.empty.size = 0 from rfl]; have := HE.out; omega)).mono ?_
   rintro e wb ⟨rfl, hwb, hkb⟩
   rw [show ByteArray.empty = textB [] from rfl, text_append, List.nil_append] at hwb
   have HWb := Lib.hid hwb
   have hzb : wr.heap.size ≤ wa.heap.size := HBa.out.size
   have HBb := Lib.hid (HBa.out.trans (hkb.below (B := wr.heap.size) hzb (fun k hk h => by have := h.1; have := HGW.out; omega)))
   have hzb2 : wr.heap.size ≤ wb.heap.size := HBb.out.size
   have HRb := Lib.hid (arr_range (LS.out.below HBb.out hLlt))
   clear hwb hkb
   go_wp2_with (refine wpList_load_mid rfl 27 _ rfl gL 0 rfl L _ HRb.out under8 rfl HIL.out ?_)
   refine (HWID.out wb).mono ?_
   rintro e wc ⟨vc, rfl, hoc, hbc⟩
   have HWc := Lib.hid (HWb.out.later hbc)
   have HBc := Lib.hid (HBb.out.trans (hbc.mono hzb2))
   have HSc := Lib.hid (SeqAt.of_owns hoc)
   have hzc : wr.heap.size ≤ wc.heap.size := HBc.out.size
   clear hoc hbc
   go_wp2_with fail
   refine (runsPrint vc ls wc HSc.out (by rw [HLL.out]; omega) (fun n hn => by have := H256.out n hn; unfold M64; omega)).mono ?_
   rintro e wd ⟨rfl, hbd⟩
   have HWd := Lib.hid (HWc.out.later hbd)
   have HBd := Lib.hid (HBc.out.trans (hbd.mono hzc))
   have hzd : wr.heap.size ≤ wd.heap.size := HBd.out.size
   clear hbd
   go_wp2_with fail
   refine (octetText gW gW _ (textB (printR ls)) wd HWd.out (by rw [textB_size, textB_size]; have := HE.out; have := printR_le ls; rw [HLL.out] at this; omega)).mono ?_
   rintro e we ⟨rfl, hwe, hke⟩
   rw [text_append] at hwe
   have HWe := Lib.hid hwe
   have HBe := Lib.hid (HBd.out.trans (hke.below (B := wr.heap.size) hzd (fun k hk h => by have := h.1; have := HGW.out; omega)))
   have hze : wr.heap.size ≤ we.heap.size := HBe.out.size
   have HBWe := Lib.hid (HBW.out.later HBe.out)
   clear hwe hke
   go_wp2_with fail
   refine (bitsString w.heap.size gB pl we HBWe.out).mono ?_
   rintro e wf ⟨rfl, rfl⟩
   go_wp2_with fail
   refine (octetText gW gW _ (textB (packB pl)) we HWe.out (by rw [textB_size, textB_size, List.length_append]; have := HE.out; have := printR_le ls; rw [HLL.out] at this; omega)).mono ?_
   rintro e wg ⟨rfl, hwg, hkg⟩
   rw [text_append, List.append_assoc] at hwg
   have HWg := Lib.hid hwg
   have HBg := Lib.hid (HBe.out.trans (hkg.below (B := wr.heap.size) hze (fun k hk h => by have := h.1; have := HGW.out; omega)))
   clear hwg hkg
   go_wp2_with fail
   refine (octetString gW gW _ wg HWg.out (by rw [textB_size, List.length_append, List.length_append]; unfold maxLen; have := HE.out; have := printR_le ls; rw [HLL.out] at this; omega)).mono ?_
   rintro e wh ⟨rfl, rfl⟩
   go_wp2
   go_ret
   exact ⟨by rw [HPK.out, HSL.out]; rfl, HB.out.trans (HBg.out.mono HB.out.size)⟩
def unA (s : ByteArray) : Nat := (rd (restOf s 0)).2.2
def unZ (s : ByteArray) : Nat := redAt s (unA s) 256
def unL (s : ByteArray) : List Nat := rlL s (unA s)
def unTx (s : ByteArray) : List UInt8 := dcT (unL s) (s.extract (unZ s) s.size) (rd (restOf s 0)).1
def unE (s : ByteArray) (most : Int) : Nat :=
 if most < 0 then 1 else if (rd (restOf s 0)).2.1 ≠ 0 then 3 else if most < ((rd (restOf s 0)).1 : Int) then 4 else if rlB s (unA s) = false then 3
 else if dcB (unL s) (s.extract (unZ s) s.size) (rd (restOf s 0)).1 = false then 3 else if textB (pkT (unTx s)) = s then 0 else 3
def unT (s : ByteArray) (most : Int) : List UInt8 := if unE s most = 0 then unTx s else []
set_option maxHeartbeats 2000000 in
set_option maxRecDepth 100000 in
theorem huffUnpack (s : ByteArray) (most : Int) (w : World) (hs : s.size ≤ 1099511627776) (hm : most ≤ 4294967296) (hm0 : -9223372036854775808 ≤ most) :
  Calls Try.prog 21 #[.string s, .int .i64 most] w fun e w' => e = .returned (.tuple #[.string (textB (unT s most)), .int .i64 (unE s most : Nat)]) ∧ Below w.heap.size w w' := by
 by_cases hneg : most < 0
 ·have hE : unE s most = 1 := by unfold unE; rw [if_pos hneg]
  have hT : unT s most = [] := by unfold unT; rw [hE]; rfl
  have e0 : decide (most < 0) = true := by simpa using hneg
  rw [hE, hT]
  clear hE hT hneg
  go_enter Try.func21, Try.ntmps21
  go_wp2
  go_ret2
  exact ⟨rfl, Below.refl _ _⟩
 obtain ⟨M, rfl⟩ : ∃ M : Nat, most = M := ⟨most.toNat, by omega⟩
 have e0 : decide ((M : Int) < 0) = false := by simp
 have hEE : unE s M = if (rd (restOf s 0)).2.1 ≠ 0 then 3 else if (M : Int) < ((rd (restOf s 0)).1 : Int) then 4 else if rlB s (unA s) = false then 3
  else if dcB (unL s) (s.extract (unZ s) s.size) (rd (restOf s 0)).1 = false then 3 else if textB (pkT (unTx s)) = s then 0 else 3 := by conv => lhs; unfold unE; rw [if_neg hneg]
 have hTT : unT s M = if unE s M = 0 then unTx s else [] := rfl
 have HA : Hid (unA s = (rd (restOf s 0)).2.2) := rfl
 have HZ : Hid (unZ s = redAt s (unA s) 256) := rfl
 have HL : Hid (unL s = rlL s (unA s)) := rfl
 have HTX : Hid (unTx s = dcT (unL s) (s.extract (unZ s) s.size) (rd (restOf s 0)).1) := rfl
 have HEE := Lib.hid hEE
 have HTT := Lib.hid hTT
 have hvr := fun w g h => varintRead g s 0 w h
 rw [Nat.zero_add, ← HA.out] at hvr
 have hrb := (rd_ok (restOf s 0))
 obtain ⟨n, hn⟩ : ∃ n, n = (rd (restOf s 0)).1 := ⟨_, rfl⟩
 obtain ⟨ev, hev⟩ : ∃ ev, ev = (rd (restOf s 0)).2.1 := ⟨_, rfl⟩
 rw [← hn, ← hev] at hvr
 rw [← hn] at HTX
 have hEE2 := HEE.out
 rw [← hn, ← hev] at hEE2
 have HE2 := Lib.hid hEE2
 have HVR := Lib.hid hvr
 clear hEE hTT hvr hEE2 HEE hneg hm0
 have hnl : n < 18446744073709551616 := by rw [hn]; exact Nat.lt_succ_of_le (rd_bound _)
 clear hn hev hrb
 go_enter Try.func21, Try.ntmps21
 go_wp2_with fail
 refine (octetNew s w (by unfold maxLen; omega)).mono ?_
 rintro e w1 ⟨rfl, hr1, hk1⟩
 have HR1 := Lib.hid hr1
 have HB1 := Lib.hid hk1.all
 have hgl := hr1.lt
 obtain ⟨g, hg⟩ : ∃ g, g = w.heap.size := ⟨_, rfl⟩
 have hB : w.heap.size ≤ g := by omega
 rw [← hg] at HR1 hgl ⊢
 clear hr1 hk1 hg
 go_wp2_with fail
 refine (HVR.out w1 g HR1.out).mono ?_
 rintro e w2 ⟨rfl, hr2, hk2⟩
 have HR2 := Lib.hid hr2
 have HB2 := Lib.hid (HB1.out.trans (hk2.below (B := w.heap.size) HB1.out.size (fun k hk e => by have h1 : k = g := e; omega)))
 have hz2 : w.heap.size ≤ w2.heap.size := HB2.out.size
 clear hr2 hk2 HR1 HB1 HVR
 by_cases hev0 : ev = 0
 ·subst hev0
  have hE3 := HE2.out
  rw [if_neg (fun h => h rfl)] at hE3
  have HE3 := Lib.hid hE3
  clear hE3 HE2
  have eM : IntKind.u64.wrap (M : Int) = (M : Int) := by rw [IntKind.wrap_u64]; omega
  by_cases hnM : M < n
  ·have x1 : decide ((M : Int) < (n : Int)) = true := by simp; omega
   have x2 : decide (M < n) = true := by simpa using hnM
   have hE : unE s M = 4 := by rw [HE3.out, if_pos (by omega)]
   have hT : unT s M = [] := by rw [HTT.out, hE]; rfl
   have HE := Lib.hid hE
   have HT := Lib.hid hT
   clear hE hT hnM HE3 HTT
   go_wp2
   go_ret2
   exact ⟨by rw [HE.out, HT.out]; rfl, HB2.out⟩
  ·have x1 : decide ((M : Int) < (n : Int)) = false := by simp; omega
   have x2 : decide (M < n) = false := by simpa using hnM
   have hE4 := HE3.out
   rw [if_neg (by omega)] at hE4
   have HE4 := Lib.hid hE4
   clear hE4 HE3
   go_wp2_with fail
   refine (huffReadLengths g s (unA s) w2 HR2.out hs).mono ?_
   rw [← HL.out, ← HZ.out]
   rintro e w3 ⟨rfl, hr3, hk3⟩
   have HR3 := Lib.hid hr3
   have HB3 := Lib.hid (HB2.out.trans (hk3.below (B := w.heap.size) hz2 (fun k hk e => by have h1 : k = g := e; omega)))
   have hz3 : w.heap.size ≤ w3.heap.size := HB3.out.size
   have hlok : LOk (unL s) := rlL_ok s (unA s)
   have HLOK := Lib.hid hlok
   obtain ⟨L, hL⟩ : ∃ L, L = c8 (unL s) := ⟨_, rfl⟩
   have hLl : L.length = 256 := by rw [hL, c8_length, hlok.1]
   have hL1 : L.toArray.all (·.oneCell') = true := by rw [hL]; exact c8_one _
   rw [← hL]
   have HLL := Lib.hid hL
   obtain ⟨z8, hz8⟩ : ∃ z : Array Value, z = Array.replicate 256 (.int .u8 0) := ⟨_, rfl⟩
   have hzz8 := zero8
   rw [← hz8] at hzz8
   have hn8 : z8.size = 256 := by rw [hz8, Array.size_replicate]
   have hiL : (Try.prog.info? 27).map (·.size) = some L.length := by rw [hLl]; exact info8
   have hiL2 : (Try.prog.info? 27).map (·.size) = some L.toArray.size := by rw [List.size_toArray, hLl]; exact info8
   have ht := arr_there (Lies.made w3 27 z8) (n := L.toArray.size) (hn8.trans (by rw [List.size_toArray, hLl]))
   have lk := arr_store (Lies.made w3 27 z8) (L := L) (hn8.trans hLl.symm)
   have hkc := (Kept.alloc (oneRow w3.heap.size) w3 (.cells z8 27)).trans (kept_cellsH L 0 _ (g := w3.heap.size)) (fun _ _ h => h)
   have hgw3 := hr3.lt
   have HR4 := Lib.hid (hr3.kept hkc (fun e => by have h1 : g = w3.heap.size := e; omega))
   have HB4 := Lib.hid (HB3.out.trans (hkc.below (B := w.heap.size) hz3 (fun k hk e => by have h1 : k = w3.heap.size := e; omega)))
   have HIL := Lib.hid hiL
   have HIL2 := Lib.hid hiL2
   have HL1 := Lib.hid hL1
   have HTH := Lib.hid ht
   have LK := Lib.hid lk
   clear hr3 hk3 hlok hL hLl hL1 hz8 hn8 hiL hiL2 ht lk hkc HR2 HB2 HR3 HB3
   by_cases hok : rlB s (unA s) = true
   ·rw [hok]
    have hE5 := HE4.out
    rw [hok, if_neg (by decide)] at hE5
    have HE5 := Lib.hid hE5
    clear hE5 HE4 hok
    go_wp2_with (refine wpList_store_mid rfl 27 _ _ rfl w3.heap.size 0 L.toArray rfl rfl HTH.out HIL2.out HL1.out ?_)
    obtain ⟨gL, hgL⟩ : ∃ gL, gL = w3.heap.size := ⟨_, rfl⟩
    generalize (w3.alloc (.cells z8 27)).setCells w3.heap.size 0 L = w4 at *
    rw [← hgL] at LK hgw3 ⊢
    clear hgL HTH hzz8
    have hzs := HR4.out.2.1
    have hLft := octetLeft g s (unZ s) w4 HR4.out
    obtain ⟨li, hli⟩ : ∃ li : Nat, li = s.size - unZ s := ⟨_, rfl⟩
    rw [show (s.size : Int) - (unZ s : Int) = (li : Int) by omega] at hLft
    have hTk := fun w h => octetTakeOk g s (unZ s) (li : Int) w h (by omega) (by omega)
    rw [show unZ s + (li : Int).toNat = s.size by omega] at hTk
    have HLF := Lib.hid hLft
    have HTK := Lib.hid hTk
    obtain ⟨body, hbody⟩ : ∃ body, body = s.extract (unZ s) s.size := ⟨_, rfl⟩
    rw [← hbody] at HTK HE5 HTX
    have hbs : body.size ≤ 1099511627776 := by rw [hbody, ByteArray.size_extract]; omega
    have hdc := fun w => huffDecode (unL s) body n w HLOK.out hbs (by omega)
    rw [← HLL.out] at hdc
    have hTXl := dcT_length (unL s) body n
    rw [← HTX.out] at hTXl hdc
    have hpk := fun w => huffPack (textB (unTx s)) w (by rw [textB_size]; omega)
    rw [show (textB (unTx s)).data.toList = unTx s by simp [textB]] at hpk
    have HPK := Lib.hid hpk
    have HDC := Lib.hid hdc
    clear hLft hTk hdc hbody hpk hTXl hli hzs
    go_wp2_with fail
    refine HLF.out.mono ?_
    rintro e w5 ⟨rfl, k5, rfl⟩
    go_wp2_with fail
    refine (HTK.out _ (HR4.out.kept (Kept.drewN noRow w4 k5) (fun h => h))).mono ?_
    rintro e w6 ⟨rfl, hr6, hk6⟩
    have HB6 := Lib.hid ((below_drewN HB4.out k5).trans (hk6.below (B := w.heap.size) HB4.out.size (fun k hk e => by have h1 : k = g := e; omega)))
    have l6 := (show Lies (w4.drewN k5) gL 27 L.toArray from LK.out).kept hk6 (fun e => by have h1 : gL = g := e; omega)
    have HRR := Lib.hid (arr_range l6)
    have hz6 : w.heap.size ≤ w6.heap.size := HB6.out.size
    clear hr6 hk6 l6 HLF HTK
    go_wp2_with (refine wpList_load_mid rfl 27 _ rfl gL 0 rfl L _ HRR.out under8 rfl HIL.out ?_)
    refine (HDC.out w6).mono ?_
    rintro e w7 ⟨rfl, hb7⟩
    have HB7 := Lib.hid (HB6.out.trans (hb7.mono hz6))
    have hz7 : w.heap.size ≤ w7.heap.size := HB7.out.size
    clear hb7
    by_cases hdb : dcB (unL s) body n = true
    ·rw [hdb]
     have hE6 := HE5.out
     rw [hdb, if_neg (by decide)] at hE6
     have HE6 := Lib.hid hE6
     clear hE6 HE5 hdb
     go_wp2_with fail
     refine (HPK.out w7).mono ?_
     rintro e w8 ⟨rfl, hb8⟩
     have HB8 := Lib.hid (HB7.out.trans (hb8.mono hz7))
     clear hb8
     by_cases heq : textB (pkT (unTx s)) = s
     ·have hE : unE s M = 0 := by rw [HE6.out, if_pos heq]
      have hT : unT s M = unTx s := by rw [HTT.out, hE]; rfl
      have HE := Lib.hid hE
      have HT := Lib.hid hT
      have HQ := Lib.hid heq
      have e9 : ((textB (pkT (unTx s))).toList == s.toList) = true := by rw [heq]; simp
      clear hE hT heq HE6 HTT
      generalize textB (pkT (unTx s)) = Q at *
      go_wp2
      go_ret2
      exact ⟨by rw [HE.out, HT.out]; rfl, HB8.out⟩
     ·have hE : unE s M = 3 := by rw [HE6.out, if_neg heq]
      have hT : unT s M = [] := by rw [HTT.out, hE]; rfl
      have HE := Lib.hid hE
      have HT := Lib.hid hT
      have e9 := text_ne heq
      clear hE hT heq HE6 HTT
      generalize textB (pkT (unTx s)) = Q at *
      go_wp2
      go_ret2
      exact ⟨by rw [HE.out, HT.out]; rfl, HB8.out⟩
    ·have hdb2 : dcB (unL s) body n = false := by simpa using hdb
     rw [hdb2]
     have hE : unE s M = 3 := by rw [HE5.out, if_pos hdb2]
     have hT : unT s M = [] := by rw [HTT.out, hE]; rfl
     have HE := Lib.hid hE
     have HT := Lib.hid hT
     clear hE hT hdb hdb2 HE5 HTT
     go_wp2
     go_ret2
     exact ⟨by rw [HE.out, HT.out]; rfl, HB7.out⟩
   ·have hok2 : rlB s (unA s) = false := by simpa using hok
    rw [hok2]
    have hE : unE s M = 3 := by rw [HE4.out, if_pos hok2]
    have hT : unT s M = [] := by rw [HTT.out, hE]; rfl
    have HE := Lib.hid hE
    have HT := Lib.hid hT
    clear hE hT hok hok2 HE4 HTT
    go_wp2_with (refine wpList_store_mid rfl 27 _ _ rfl w3.heap.size 0 L.toArray rfl rfl HTH.out HIL2.out HL1.out ?_)
    go_wp2
    go_ret2
    exact ⟨by rw [HE.out, HT.out]; rfl, HB4.out⟩
 ·have x1 : ((ev : Int) != 0) = true := by simp; omega
  have x2 : (ev != 0) = true := by simpa using hev0
  have hE : unE s M = 3 := by rw [HE2.out, if_pos hev0]
  have hT : unT s M = [] := by rw [HTT.out, hE]; rfl
  have HE := Lib.hid hE
  have HT := Lib.hid hT
  clear hE hT hev0 HE2 HTT
  go_wp2
  go_ret2
  exact ⟨by rw [HE.out, HT.out]; rfl, HB2.out⟩
def mrgG : Nat → List N2 → List Nat → List Nat
 | f + 1, a :: b :: r, ps => mrgG f (insL (sumW a.1 b.1, ps.length) r) (ps2 ps a b)
 | _, _, ps => ps
theorem mrgG_eq : ∀ (f : Nat) (s : List N2) (ps : List Nat), s.length ≤ f + 1 → mrgG f s ps = mrgP s ps
 | 0, s, ps, h => by
  rw [mrgP_end s ps (by omega)]
  unfold mrgG; rfl
 | f + 1, s, ps, h => by
  match s, h with
  | [], _ => rw [mrgP_end _ _ (by simp)]; rfl
  | [a], _ => rw [mrgP_end _ _ (by simp)]; rfl
  | a :: b :: r, h =>
   rw [mrgP_step, mrgG, mrgG_eq f _ _ (by rw [insL_length]; simp at h; omega)]
def parG (ws : List Nat) : List Nat := mrgG 256 (sortL (lvs ws)) (List.replicate (lvs ws).length 0)
theorem parG_eq {ws : List Nat} (h : (lvs ws).length ≤ 257) : parG ws = parW ws := by
 unfold parG parW; exact mrgG_eq _ _ _ (by rw [sortL_length]; exact h)
def lensG (ws : List Nat) : List Nat := (lenP (depA (lvs ws).length (parG ws)) ws).1
theorem lensG_eq {ws : List Nat} (h : (lvs ws).length ≤ 257) : lensG ws = lensW ws := by unfold lensG lensW depW; rw [parG_eq h]
def abca : List UInt8 := [97, 98, 99, 97]
def aL : List Nat := List.replicate 97 0 ++ ([1, 2, 2] ++ List.replicate 156 0)
def aS : List UInt8 := [4, 4, 0, 96, 1, 0, 2, 1, 0, 155, 1, 88]
theorem av_cnt : cntL abca = List.replicate 97 0 ++ ([2, 1, 1] ++ List.replicate 156 0) := by decide +kernel
theorem av_len : lnT abca = aL := by
 unfold lnT
 rw [← lensG_eq (by rw [av_cnt]; decide +kernel), av_cnt]
 decide +kernel
theorem av_e : cdsE aL = 0 := by decide +kernel
theorem av_c : (cdsOf aL)[97]? = some 0 ∧ (cdsOf aL)[98]? = some 2 ∧ (cdsOf aL)[99]? = some 3 := by decide +kernel
theorem av_l : aL[97]? = some 1 ∧ aL[98]? = some 2 ∧ aL[99]? = some 2 ∧ aL[100]? = some 0 := by decide +kernel
theorem av_far : cdsE ((List.replicate 256 0).set 0 57) = 1 := by decide +kernel
theorem av_half : cdsE (((List.replicate 256 0).set 3 1).set 4 2) = 3 := by decide +kernel
theorem av_pk : pkT abca = aS := by
 unfold pkT cdT
 rw [av_len]
 decide +kernel
theorem av_pk0 : pkT [] = [0, 1, 0, 255, 1] := by
 have h : lnT [] = List.replicate 256 0 := by
  unfold lnT
  rw [← lensG_eq (by decide +kernel)]
  decide +kernel
 unfold pkT cdT
 rw [h]
 decide +kernel
theorem av_rd : rd (restOf (textB aS) 0) = (4, 0, 1) := by decide +kernel
theorem av_rl : unL (textB aS) = aL := by unfold unL unA; rw [av_rd]; decide +kernel
theorem av_rb : rlB (textB aS) (unA (textB aS)) = true := by unfold unA; rw [av_rd]; decide +kernel
theorem av_z : unZ (textB aS) = 11 := by unfold unZ unA; rw [av_rd]; decide +kernel
theorem av_db : dcB aL ((textB aS).extract 11 (textB aS).size) 4 = true := by decide +kernel
theorem av_dt : dcT aL ((textB aS).extract 11 (textB aS).size) 4 = abca := by decide +kernel
theorem av_rd2 : rd (restOf (textB (aS ++ [120])) 0) = (4, 0, 1) := by decide +kernel
theorem av_rl2 : unL (textB (aS ++ [120])) = aL := by unfold unL unA; rw [av_rd2]; decide +kernel
theorem av_rb2 : rlB (textB (aS ++ [120])) (unA (textB (aS ++ [120]))) = true := by unfold unA; rw [av_rd2]; decide +kernel
theorem av_z2 : unZ (textB (aS ++ [120])) = 11 := by unfold unZ unA; rw [av_rd2]; decide +kernel
theorem av_db2 : dcB aL ((textB (aS ++ [120])).extract 11 (textB (aS ++ [120])).size) 4 = false := by decide +kernel
theorem av_u4 : unE (textB aS) 4 = 0 ∧ unT (textB aS) 4 = abca := by
 have ht : unTx (textB aS) = abca := by unfold unTx; rw [av_rl, av_z, av_rd]; exact av_dt
 have he : unE (textB aS) 4 = 0 := by
  unfold unE
  rw [ht, av_rb, av_rl, av_z, av_rd, av_pk, av_db]
  rfl
 exact ⟨he, by unfold unT; rw [if_pos he, ht]⟩
theorem av_u3 : unE (textB aS) 3 = 4 := by
 unfold unE
 rw [av_rd]
 rfl
theorem av_u9 : unE (textB (aS ++ [120])) 9 = 3 := by
 unfold unE
 rw [av_rb2, av_rl2, av_z2, av_rd2, av_db2]
 rfl
theorem newArr {w : World} {B : Nat} {t : TypeId} {zs : Array Value} {L : List Value} (hn : zs.size = L.length) (hB : B ≤ w.heap.size) :
  (w.alloc (.cells zs t)).there w.heap.size 0 L.toArray.size ∧ Lies ((w.alloc (.cells zs t)).setCells w.heap.size 0 L) w.heap.size t L.toArray ∧
   Below w.heap.size w ((w.alloc (.cells zs t)).setCells w.heap.size 0 L) ∧ ((w.alloc (.cells zs t)).setCells w.heap.size 0 L).heap.size = w.heap.size + 1 := by
 refine ⟨arr_there (Lies.made w t zs) (by rw [List.size_toArray]; exact hn), arr_store (Lies.made w t zs) hn, ?_, ?_⟩
 ·exact below_cellsA (Nat.le_refl _) L 0 _ ((Below.refl _ _).alloc (Nat.le_refl _) _)
 ·rw [size_setCells]; simp
set_option maxHeartbeats 4000000 in
set_option maxRecDepth 100000 in
theorem huffAwake (w : World) : Calls Try.prog 10 #[] w fun e w' => e = .returned (.bool true) ∧ Below w.heap.size w w' := by
 have hcnt := fun w => huffCount (textB abca) w (by rw [textB_size]; decide)
 have hwok : WOk (cntL abca) := ⟨cntL_length _, fun n hn => by have := cntL_le _ n hn; have : abca.length = 4 := rfl; omega⟩
 have hlen := fun w => huffLengths (cntL abca) w hwok
 change ∀ w, Calls Try.prog _ _ w fun e w' => e = .returned (.agg (c8 (lnT abca)).toArray) ∧ _ at hlen
 rw [av_len] at hlen
 have hal : aL.length = 256 := by decide
 have hal2 : ∀ x ∈ aL, x < 256 := by decide +kernel
 have hcds := fun w => huffCodes aL w hal hal2
 rw [av_e] at hcds
 have hfar := fun w => huffCodes ((List.replicate 256 0).set 0 57) w (by rw [List.length_set, List.length_replicate]) (by decide +kernel)
 have hhalf := fun w => huffCodes (((List.replicate 256 0).set 3 1).set 4 2) w (by rw [List.length_set, List.length_set, List.length_replicate]) (by decide +kernel)
 rw [av_far] at hfar
 rw [av_half] at hhalf
 have hpk := fun w => huffPack (textB abca) w (by rw [textB_size]; decide)
 have hpk0 := fun w => huffPack (textB []) w (by rw [textB_size]; decide)
 rw [show (textB abca).data.toList = abca by simp [textB], av_pk] at hpk
 rw [show (textB []).data.toList = [] by simp [textB], av_pk0] at hpk0
 have hu4 := fun w => huffUnpack (textB aS) 4 w (by rw [textB_size]; decide) (by decide) (by decide)
 rw [av_u4.1, av_u4.2] at hu4
 have hu3 := fun w => huffUnpack (textB aS) 3 w (by rw [textB_size]; decide) (by decide) (by decide)
 rw [av_u3] at hu3
 have hu9 := fun w => huffUnpack (textB (aS ++ [120])) 9 w (by rw [textB_size]; decide) (by decide) (by decide)
 rw [av_u9] at hu9
 obtain ⟨N, hN⟩ : ∃ N, N = cells64 (cntL abca) := ⟨_, rfl⟩
 obtain ⟨L, hL⟩ : ∃ L, L = c8 aL := ⟨_, rfl⟩
 obtain ⟨D, hD⟩ : ∃ D, D = cells64 (cdsOf aL) := ⟨_, rfl⟩
 obtain ⟨FA, hFA⟩ : ∃ F, F = c8 ((List.replicate 256 0).set 0 57) := ⟨_, rfl⟩
 obtain ⟨HA, hHA⟩ : ∃ F, F = c8 (((List.replicate 256 0).set 3 1).set 4 2) := ⟨_, rfl⟩
 obtain ⟨D1, hD1⟩ : ∃ D, D = cells64 (cdsOf ((List.replicate 256 0).set 0 57)) := ⟨_, rfl⟩
 obtain ⟨D2, hD2⟩ : ∃ D, D = cells64 (cdsOf (((List.replicate 256 0).set 3 1).set 4 2)) := ⟨_, rfl⟩
 rw [show (textB abca).data.toList = abca by simp [textB], ← hN] at hcnt
 rw [← hN, ← hL] at hlen
 rw [← hL, ← hD] at hcds
 rw [← hFA, ← hD1] at hfar
 rw [← hHA, ← hD2] at hhalf
 have hLl : L.length = 256 := by rw [hL, c8_length, hal]
 have hFl : FA.length = 256 := by rw [hFA, c8_length, List.length_set, List.length_replicate]
 have hHl : HA.length = 256 := by rw [hHA, c8_length, List.length_set, List.length_set, List.length_replicate]
 have hDl : D.length = 256 := by rw [hD, c64_length, cdsOf_length]
 have hD1l : D1.length = 256 := by rw [hD1, c64_length, cdsOf_length]
 have hD2l : D2.length = 256 := by rw [hD2, c64_length, cdsOf_length]
 have hL1 : L.toArray.all (·.oneCell') = true := by rw [hL]; exact c8_one _
 have hDo : D.toArray.all (·.oneCell') = true := by rw [hD]; exact c64_one _
 have hD1o : D1.toArray.all (·.oneCell') = true := by rw [hD1]; exact c64_one _
 have hD2o : D2.toArray.all (·.oneCell') = true := by rw [hD2]; exact c64_one _
 have i8 : ∀ {X : List Value}, X.length = 256 → (Try.prog.info? 27).map (·.size) = some X.length := fun h => by rw [h]; exact info8
 have i8' : ∀ {X : List Value}, X.length = 256 → (Try.prog.info? 27).map (·.size) = some X.toArray.size := fun h => by rw [List.size_toArray, h]; exact info8
 have i6' : ∀ {X : List Value}, X.length = 256 → (Try.prog.info? 25).map (·.size) = some X.toArray.size := fun h => by rw [List.size_toArray, h]; exact info64
 obtain ⟨z8, hz8⟩ : ∃ z : Array Value, z = Array.replicate 256 (.int .u8 0) := ⟨_, rfl⟩
 obtain ⟨z6, hz6⟩ : ∃ z : Array Value, z = Array.replicate 256 (.int .u64 0) := ⟨_, rfl⟩
 have hzz8 := zero8
 have hzz6 := zero64
 rw [← hz8] at hzz8
 rw [← hz6] at hzz6
 have hn8 : z8.size = 256 := by rw [hz8, Array.size_replicate]
 have hn6 : z6.size = 256 := by rw [hz6, Array.size_replicate]
 have hz8l : z8 = (c8 (List.replicate 256 0)).toArray := by rw [hz8]; unfold c8; rw [List.map_replicate]; exact (List.toArray_replicate 256 _).symm
 have cl1 : L[97]? = some (.int .u8 1) ∧ L[98]? = some (.int .u8 2) ∧ L[99]? = some (.int .u8 2) ∧ L[100]? = some (.int .u8 0) := by
  rw [hL]; exact ⟨c8_get av_l.1, c8_get av_l.2.1, c8_get av_l.2.2.1, c8_get av_l.2.2.2⟩
 have cd1 : D[97]? = some (.int .u64 0) ∧ D[98]? = some (.int .u64 2) ∧ D[99]? = some (.int .u64 3) := by
  rw [hD]; exact ⟨c64_get'' av_c.1, c64_get'' av_c.2.1, c64_get'' av_c.2.2⟩
 have CL1 := Lib.hid cl1
 have CD1 := Lib.hid cd1
 have HCNT := Lib.hid hcnt
 have HLEN := Lib.hid hlen
 have HCDS := Lib.hid hcds
 have HFAR := Lib.hid hfar
 have HHALF := Lib.hid hhalf
 have HPK := Lib.hid hpk
 have HPK0 := Lib.hid hpk0
 have HU4 := Lib.hid hu4
 have HU3 := Lib.hid hu3
 have HU9 := Lib.hid hu9
 have HFA := Lib.hid hFA
 have HHA := Lib.hid hHA
 have HZ8 := Lib.hid hz8l
 have J1 := Lib.hid (i8 hLl)
 have J2 := Lib.hid (i8' hLl)
 have J3 := Lib.hid (i8 hFl)
 have J4 := Lib.hid (i8 hHl)
 have J5 := Lib.hid (i6' hDl)
 have J6 := Lib.hid (i6' hD1l)
 have J7 := Lib.hid (i6' hD2l)
 have O1 := Lib.hid hL1
 have O2 := Lib.hid hDo
 have O3 := Lib.hid hD1o
 have O4 := Lib.hid hD2o
 have NL := Lib.hid (hn8.trans hLl.symm)
 have ND := Lib.hid (hn6.trans hDl.symm)
 have ND1 := Lib.hid (hn6.trans hD1l.symm)
 have ND2 := Lib.hid (hn6.trans hD2l.symm)
 clear hcnt hlen hcds hfar hhalf hpk hpk0 hu4 hu3 hu9 hL hD hFA hHA hD1 hD2 hLl hFl hHl hDl hD1l hD2l hL1 hDo hD1o hD2o i8 i8' i6' hz8 hz6 hn8 hn6 hz8l cl1 cd1 hal hal2 hN hwok
 go_enter Try.func10, Try.ntmps10
 go_wp2_with fail
 refine (HCNT.out w).mono ?_
 rintro e w1 ⟨rfl, hb1⟩
 go_wp2_with fail
 refine (HLEN.out w1).mono ?_
 rintro e w2 ⟨rfl, hb2⟩
 have hb02 := hb1.trans (hb2.mono hb1.size)
 have hz2 : w.heap.size ≤ w2.heap.size := hb02.size
 obtain ⟨th, lk, hbk, hsz⟩ := newArr (B := w.heap.size) (t := 27) NL.out hz2
 have TH := Lib.hid th
 have LK := Lib.hid lk
 have HR := Lib.hid (arr_range lk)
 have HB := Lib.hid (hb02.trans (hbk.mono hz2))
 have HSZ := Lib.hid hsz
 clear hb1 hb2 hb02 th lk hbk hsz HCNT HLEN
 go_wp2_with (first | refine wpList_store_mid rfl 27 _ _ rfl w2.heap.size 0 L.toArray rfl rfl TH.out J2.out O1.out ?_ | refine wpList_load_mid rfl 27 _ rfl w2.heap.size 0 rfl L _ HR.out under8 rfl J1.out ?_)
 obtain ⟨g1, hg1⟩ : ∃ g1, g1 = w2.heap.size := ⟨_, rfl⟩
 generalize (w2.alloc (.cells z8 27)).setCells w2.heap.size 0 L = w3 at *
 rw [← hg1] at LK HSZ hz2 ⊢
 clear hg1 TH HR
 refine (HCDS.out w3).mono ?_
 rintro e w4 ⟨rfl, hb4⟩
 have LK4 := Lib.hid (LK.out.below hb4 (by rw [HSZ.out]; omega))
 have HB4 := Lib.hid (HB.out.trans (hb4.mono HB.out.size))
 have hz4 : g1 + 1 ≤ w4.heap.size := by have := hb4.size; rw [HSZ.out] at this; exact this
 obtain ⟨th, lk, hbk, hsz⟩ := newArr (B := w.heap.size) (w := w4) (t := 25) ND.out (by omega)
 have TH := Lib.hid th
 have LD := Lib.hid lk
 have LK5 := Lib.hid (LK4.out.below hbk (by omega))
 have HB5 := Lib.hid (HB4.out.trans (hbk.mono (by omega)))
 have HSZ5 := Lib.hid hsz
 clear hb4 th lk hbk hsz LK HB HSZ LK4 HB4 HCDS
 go_upto_region 3 with (refine wpList_store_mid rfl 25 _ _ rfl w4.heap.size 0 D.toArray rfl rfl TH.out J5.out O2.out ?_)
 obtain ⟨g2, hg2⟩ : ∃ g2, g2 = w4.heap.size := ⟨_, rfl⟩
 generalize (w4.alloc (.cells z6 25)).setCells w4.heap.size 0 D = w5 at *
 rw [← hg2] at LD HSZ5 hz4 ⊢
 clear hg2 TH
 have hz5 : w.heap.size ≤ w5.heap.size := HB5.out.size
 have l4 := (Lies.made w5 27 z8).alloc (.cells z8 27)
 have l5 := Lies.made (w5.alloc (.cells z8 27)) 27 z8
 rw [show (w5.alloc (.cells z8 27)).heap.size = w5.heap.size + 1 by simp] at l5
 have hb6 := ((Below.refl w5.heap.size w5).alloc (Nat.le_refl _) (.cells z8 27)).alloc (by simp) (.cells z8 27)
 have L4 := Lib.hid l4
 have L5 := Lib.hid l5
 have HB6 := Lib.hid (HB5.out.trans (hb6.mono hz5))
 have LK6 := Lib.hid (LK5.out.below hb6 (by rw [HSZ5.out]; omega))
 have LD6 := Lib.hid (LD.out.below hb6 (by rw [HSZ5.out]; omega))
 have HSZ6 := Lib.hid (show ((w5.alloc (.cells z8 27)).alloc (.cells z8 27)).heap.size = w5.heap.size + 2 by simp)
 clear l4 l5 hb6 LK5 LD HB5
 go_upto_region 4 with (fail)
 obtain ⟨g4, hg4⟩ : ∃ g4, g4 = w5.heap.size := ⟨_, rfl⟩
 generalize (w5.alloc (.cells z8 27)).alloc (.cells z8 27) = w6 at *
 rw [← hg4] at L4 L5 HSZ6 HSZ5 hz5 ⊢
 clear hg4
 have hzc : ∀ i, i < 256 → z8[i]? = some (.int .u8 0) := fun i hi => by
  rw [HZ8.out, List.getElem?_toArray]
  exact c8_get (by rw [List.getElem?_replicate, if_pos hi])
 have k1 : w6.cell? ⟨g4, 0, none⟩ = some (.int .u8 0) := (L4.out.cell 0).trans (hzc 0 (by decide))
 have f1 := L4.out.free 0
 have k2 : w6.cell? ⟨g4 + 1, 3, none⟩ = some (.int .u8 0) := (L5.out.cell 3).trans (hzc 3 (by decide))
 have f2 := L5.out.free 3
 have k3 : w6.cell? ⟨g4 + 1, 4, none⟩ = some (.int .u8 0) := (L5.out.cell 4).trans (hzc 4 (by decide))
 have f3 := L5.out.free 4
 have l4 := L4.out
 have l5 := L5.out
 rw [HZ8.out] at l4 l5
 have l4a := l4.putL' 0 (.int .u8 ((57 : Nat) : Int))
 rw [c8_set, ← HFA.out] at l4a
 have l5a := (l5.far (p := ⟨g4, 0, none⟩) (by show g4 + 1 ≠ g4; omega) (.int .u8 ((57 : Nat) : Int))).putL' 3 (.int .u8 ((1 : Nat) : Int))
 rw [c8_set] at l5a
 have l5b := l5a.putL' 4 (.int .u8 ((2 : Nat) : Int))
 rw [c8_set, ← HHA.out] at l5b
 have l4b := (l4a.far (p := ⟨g4 + 1, 3, none⟩) (by show g4 ≠ g4 + 1; omega) (.int .u8 ((1 : Nat) : Int))).far (p := ⟨g4 + 1, 4, none⟩) (by show g4 ≠ g4 + 1; omega) (.int .u8 ((2 : Nat) : Int))
 have hk7 := ((Kept.put w6 g4 0 (.int .u8 ((57 : Nat) : Int))).mono (fun i _ (h : i = g4) => show g4 ≤ i by omega)).trans (((Kept.put (w6.setCell ⟨g4, 0, none⟩ (.int .u8 ((57 : Nat) : Int))) (g4 + 1) 3 (.int .u8 ((1 : Nat) : Int))).mono (fun i _ (h : i = g4 + 1) => show g4 ≤ i by omega)).trans
  ((Kept.put ((w6.setCell ⟨g4, 0, none⟩ (.int .u8 ((57 : Nat) : Int))).setCell ⟨g4 + 1, 3, none⟩ (.int .u8 ((1 : Nat) : Int))) (g4 + 1) 4 (.int .u8 ((2 : Nat) : Int))).mono (fun i _ (h : i = g4 + 1) => show g4 ≤ i by omega)) (fun _ _ h => h)) (fun _ _ h => h)
 have LF7 := Lib.hid l4b
 have LH7 := Lib.hid l5b
 have hsz7 : (((w6.setCell ⟨g4, 0, none⟩ (.int .u8 ((57 : Nat) : Int))).setCell ⟨g4 + 1, 3, none⟩ (.int .u8 ((1 : Nat) : Int))).setCell ⟨g4 + 1, 4, none⟩ (.int .u8 ((2 : Nat) : Int))).heap.size = g4 + 2 := by simp; exact HSZ6.out
 have HSZ7 := Lib.hid hsz7
 have LK7 := Lib.hid (LK6.out.kept hk7 (fun (h : g4 ≤ g1) => by have := HSZ5.out; omega))
 have LD7 := Lib.hid (LD6.out.kept hk7 (fun (h : g4 ≤ g2) => by have := HSZ5.out; omega))
 have HB7 := Lib.hid (HB6.out.trans (hk7.below (B := w.heap.size) (by rw [HSZ6.out]; omega) (fun k hk (h : g4 ≤ k) => by omega)))
 clear l4 l5 l4a l5a l5b l4b hk7 hsz7 L4 L5 LK6 LD6 HB6 HSZ6
 go_upto_region 6 with (fail)
 change Code.wp _ _ _ _ (((w6.setCell ⟨g4, 0, none⟩ (.int .u8 ((57 : Nat) : Int))).setCell ⟨g4 + 1, 3, none⟩ (.int .u8 ((1 : Nat) : Int))).setCell ⟨g4 + 1, 4, none⟩ (.int .u8 ((2 : Nat) : Int)))
 generalize ((w6.setCell ⟨g4, 0, none⟩ (.int .u8 ((57 : Nat) : Int))).setCell ⟨g4 + 1, 3, none⟩ (.int .u8 ((1 : Nat) : Int))).setCell ⟨g4 + 1, 4, none⟩ (.int .u8 ((2 : Nat) : Int)) = w7 at *
 clear k1 f1 k2 f2 k3 f3 hzc
 have HRF := Lib.hid (arr_range LF7.out)
 have hz7 : w.heap.size ≤ w7.heap.size := HB7.out.size
 go_wp2_with (refine wpList_load_mid rfl 27 _ rfl g4 0 rfl FA _ HRF.out under8 rfl J3.out ?_)
 refine (HFAR.out w7).mono ?_
 rintro e w8 ⟨rfl, hb8⟩
 have hz8 : g4 + 2 ≤ w8.heap.size := by have := hb8.size; rw [HSZ7.out] at this; exact this
 obtain ⟨th, lk, hbk, hsz⟩ := newArr (B := w.heap.size) (w := w8) (t := 25) ND1.out (by omega)
 have TH := Lib.hid th
 have hb9 := hb8.trans (hbk.mono hb8.size)
 have LK9 := Lib.hid (LK7.out.below hb9 (by have := HSZ5.out; rw [HSZ7.out]; omega))
 have LD9 := Lib.hid (LD7.out.below hb9 (by have := HSZ5.out; rw [HSZ7.out]; omega))
 have lh9 := LH7.out.below hb9 (by rw [HSZ7.out]; omega)
 have HRH := Lib.hid (arr_range lh9)
 have HB9 := Lib.hid (HB7.out.trans (hb9.mono hz7))
 clear hb8 th lk hbk hb9 lh9 LK7 LD7 LF7 LH7 HB7 HFAR HRF
 go_wp2_with (first | refine wpList_store_mid rfl 25 _ _ rfl w8.heap.size 0 D1.toArray rfl rfl TH.out J6.out O3.out ?_ | refine wpList_load_mid rfl 27 _ rfl (g4 + 1) 0 rfl HA _ HRH.out under8 rfl J4.out ?_)
 generalize (w8.alloc (.cells z6 25)).setCells w8.heap.size 0 D1 = w9 at *
 have hz9 : w.heap.size ≤ w9.heap.size := HB9.out.size
 refine (HHALF.out w9).mono ?_
 rintro e w10 ⟨rfl, hb10⟩
 have hz10 : w9.heap.size ≤ w10.heap.size := hb10.size
 obtain ⟨th, lk, hbk, hsz2⟩ := newArr (B := w.heap.size) (w := w10) (t := 25) ND2.out (by omega)
 have TH2 := Lib.hid th
 have hb11 := hb10.trans (hbk.mono hb10.size)
 have LK11 := Lib.hid (LK9.out.below hb11 LK9.out.lt)
 have LD11 := Lib.hid (LD9.out.below hb11 LD9.out.lt)
 have HB11 := Lib.hid (HB9.out.trans (hb11.mono hz9))
 clear hb10 th lk hbk hb11 LK9 LD9 HRH HB9 HHALF TH
 go_wp2_with (refine wpList_store_mid rfl 25 _ _ rfl w10.heap.size 0 D2.toArray rfl rfl TH2.out J7.out O4.out ?_)
 generalize (w10.alloc (.cells z6 25)).setCells w10.heap.size 0 D2 = w11 at *
 have hz11 : w.heap.size ≤ w11.heap.size := HB11.out.size
 refine (HPK.out w11).mono ?_
 rintro e w12 ⟨rfl, hb12⟩
 go_wp2_with fail
 refine (HU4.out w12).mono ?_
 rintro e w13 ⟨rfl, hb13⟩
 go_wp2_with fail
 refine (HU3.out w13).mono ?_
 rintro e w14 ⟨rfl, hb14⟩
 have eap : textB aS ++ ⟨#[120]⟩ = textB (aS ++ [120]) := text_append aS [120]
 have esz : ¬ 9223372036854775807 < (textB aS).size + (⟨#[120]⟩ : ByteArray).size := by rw [textB_size]; decide
 go_wp2_with fail
 refine (HU9.out w14).mono ?_
 rintro e w15 ⟨rfl, hb15⟩
 have hb16 := ((hb12.trans (hb13.mono hb12.size)).trans (hb14.mono (Nat.le_trans hb12.size hb13.size))).trans (hb15.mono (Nat.le_trans hb12.size (Nat.le_trans hb13.size hb14.size)))
 have LK15 := Lib.hid (LK11.out.below hb16 LK11.out.lt)
 have LD15 := Lib.hid (LD11.out.below hb16 LD11.out.lt)
 have HB15 := Lib.hid (HB11.out.trans (hb16.mono hz11))
 have c1 : w15.cell? ⟨g1, 97, none⟩ = some (.int .u8 1) := (LK15.out.cell 97).trans (by rw [List.getElem?_toArray]; exact CL1.out.1)
 have c2 : w15.cell? ⟨g1, 98, none⟩ = some (.int .u8 2) := (LK15.out.cell 98).trans (by rw [List.getElem?_toArray]; exact CL1.out.2.1)
 have c3 : w15.cell? ⟨g1, 99, none⟩ = some (.int .u8 2) := (LK15.out.cell 99).trans (by rw [List.getElem?_toArray]; exact CL1.out.2.2.1)
 have c4 : w15.cell? ⟨g1, 100, none⟩ = some (.int .u8 0) := (LK15.out.cell 100).trans (by rw [List.getElem?_toArray]; exact CL1.out.2.2.2)
 have d1 : w15.cell? ⟨g2, 97, none⟩ = some (.int .u64 0) := (LD15.out.cell 97).trans (by rw [List.getElem?_toArray]; exact CD1.out.1)
 have d2 : w15.cell? ⟨g2, 98, none⟩ = some (.int .u64 2) := (LD15.out.cell 98).trans (by rw [List.getElem?_toArray]; exact CD1.out.2.1)
 have d3 : w15.cell? ⟨g2, 99, none⟩ = some (.int .u64 3) := (LD15.out.cell 99).trans (by rw [List.getElem?_toArray]; exact CD1.out.2.2)
 have q1 : ((textB [0, 1, 0, 255, 1]).toList == (⟨#[0, 1, 0, 255, 1]⟩ : ByteArray).toList) = true := by rw [show textB [0, 1, 0, 255, 1] = (⟨#[0, 1, 0, 255, 1]⟩ : ByteArray) from rfl]; simp
 have q2 : ((textB abca).toList == (⟨#[97, 98, 99, 97]⟩ : ByteArray).toList) = true := by rw [show textB abca = (⟨#[97, 98, 99, 97]⟩ : ByteArray) from rfl]; simp
 have q3 : (textB [0, 1, 0, 255, 1]).toList = [0, 1, 0, 255, 1] := by rw [ByteArray.toList_eq]; simp [textB]
 have q4 : (textB abca).toList = [97, 98, 99, 97] := by rw [ByteArray.toList_eq]; simp [textB, abca]
 have HP0 : Hid (∀ w, Calls Try.prog 19 #[.string ⟨#[]⟩] w fun e w' => e = .returned (.string (textB [0, 1, 0, 255, 1])) ∧ Below w.heap.size w w') := HPK0.out
 clear hb12 hb13 hb14 hb15 hb16 LK15 LD15 LK11 LD11 HB11 HPK HU4 HU3 HU9 eap esz HPK0 TH2
 go_wp2_with fail
 refine (HP0.out w15).mono ?_
 rintro e w16 ⟨rfl, hb17⟩
 have HB17 := Lib.hid (HB15.out.trans (hb17.mono HB15.out.size))
 clear c1 c2 c3 c4 d1 d2 d3 hb17
 generalize textB [0, 1, 0, 255, 1] = Q1 at *
 generalize textB abca = Q2 at *
 go_wp2
 go_ret
 exact ⟨rfl, HB17.out⟩
theorem cells1u : Try.prog.cellsOf 24 = 1 := by kernel_rfl
theorem under_u64 : Try.prog.underlying 24 = some (.int .u64) := by kernel_rfl
theorem eqItems64 (X Y : List Nat) (w : World) : ∀ is : List Nat, (∀ i ∈ is, i < X.length ∧ i < Y.length) →
  (Op.eqItems 9999 24 1 (cells64 X).toArray (cells64 Y).toArray is).run Try.prog w = .ok (is.all fun i => X.getD i 0 == Y.getD i 0) w
 | [], _ => by simp [Op.eqItems]
 | i :: is, h => by
  have hp : ∀ (l : List Nat), i < l.length → (part 24 (cells64 l).toArray (i * 1)).run Try.prog w = .ok (.int .u64 ((l.getD i 0 : Nat) : Int)) w := fun l hl => by
   have hc : (cells64 l).toArray[i]? = some (.int .u64 ((l.getD i 0 : Nat) : Int)) := by
    rw [List.getElem?_toArray]
    refine c64_get'' ?_
    rw [List.getD_eq_getElem?_getD, List.getElem?_eq_getElem hl]; rfl
   rw [Nat.mul_one]
   simp [part, isAgg64 w, hc]
  have he : ∀ (a b : Nat), (Op.equalIn 9999 24 (.int .u64 (a : Int)) (.int .u64 (b : Int))).run Try.prog w = .ok (a == b) w := fun a b => by
   rw [run_equalIn_int w 9998 24 .u64 .u64 _ _ under_u64]
   congr 1
   rw [Bool.eq_iff_iff, beq_iff_eq, beq_iff_eq]; omega
  have ih := eqItems64 X Y w is (fun j hj => h j (List.mem_cons_of_mem _ hj))
  have hi := h i (by simp)
  rw [Op.eqItems]
  simp only [Sem.run_bind, hp X hi.1, hp Y hi.2, he, Result.andThen_ok]
  by_cases hab : X.getD i 0 = Y.getD i 0
  ·have e1 : (X.getD i 0 == Y.getD i 0) = true := by simpa using hab
   rw [e1, List.all_cons, e1]
   simp only [Bool.not_true, Bool.true_and]
   exact ih
  ·have e1 : (X.getD i 0 == Y.getD i 0) = false := by simpa using hab
   rw [e1, List.all_cons, e1]
   simp
theorem arr64Eql (X Y : List Nat) (hx : X.length = 256) (hy : Y.length = 256) (w : World) : (binOp .eql 25 (.agg (cells64 X).toArray) (.agg (cells64 Y).toArray)).run Try.prog w = .ok (.bool (decide (X = Y))) w := by
 obtain ⟨i0, hi, _, _, _⟩ := info_parts Try.infoU64
 rw [run_eql_struct, run_equalIn_array w 9999 _ _ under64 hi, cells1u, eqItems64 X Y w (List.range 256) (fun i hi => by have := List.mem_range.1 hi; omega)]
 have : ((List.range 256).all fun i => X.getD i 0 == Y.getD i 0) = decide (X = Y) := by
  rw [Bool.eq_iff_iff, List.all_eq_true, decide_eq_true_eq]
  constructor
  ·intro h
   apply List.ext_getElem?
   intro i
   by_cases hi : i < 256
   ·have := h i (List.mem_range.2 hi)
    rw [beq_iff_eq, List.getD_eq_getElem?_getD, List.getD_eq_getElem?_getD, List.getElem?_eq_getElem (by omega), List.getElem?_eq_getElem (by omega)] at this
    rw [List.getElem?_eq_getElem (by omega), List.getElem?_eq_getElem (by omega)]
    exact congrArg some this
   ·rw [List.getElem?_eq_none (by omega), List.getElem?_eq_none (by omega)]
  ·intro h i _
   rw [h]; simp
 rw [this]
 rfl
theorem guard64 : Try.prog.eqGuardType Try.prog.depth 25 = false := by kernel_rfl
end Go.Proofs.Ytakdpnlohknniaa
