/-
  The event of a line (layer 15): event.readLine.
-/
import Derived.Test.YtndcnflboikodaaDoorEvz
import Derived.Test.YtndcnflboikodaaDoorEvr
namespace Go.Proofs.YtndcnflboikodaaDoor
open Go.RowKit
set_option linter.unusedVariables false
set_option linter.unusedSimpArgs false
abbrev ev0 : Ev := ⟨0, 0, 0, 0, 0⟩
/-- The fields of a line, where they lie. -/
def FldAt (w : World) (r : Nat) (A : Option Addr) (fs : List (List UInt8)) : Prop := fs ≠ [] → ∃ off, A = some ⟨r, off, none⟩ ∧ ∀ i f, fs[i]? = some f → w.cell? ⟨r, off + i, none⟩ = some (.string (textB f))
theorem FldAt.kept {S : Nat → Prop} {w w' : World} {r : Nat} {A : Option Addr} {fs : List (List UInt8)} (h : FldAt w r A fs) (k : Kept S w w') (hr : r < w.heap.size) (hn : ¬ S r) : FldAt w' r A fs := fun hne => by
  obtain ⟨off, e, hc⟩ := h hne
  exact ⟨off, e, fun i f hf => (cell_keptN k hr hn).trans (hc i f hf)⟩
/-- What stands in the course of readLine: since w began; N0 the result's variable, ge the event's. -/
structure RlS (w q : World) (N0 gw gf gk ge r k : Nat) (A : Option Addr) (fs : List (List UInt8)) (c : Nat) (ok : Bool) (x : Ev) : Prop where
  bel : Below w.heap.size w q
  nx : NxAt q gw gf gk k A fs.length c ok
  res : Lies q N0 24 (evC ev0)
  evt : Lies q ge 24 (evC x)
  fld : FldAt q r A fs
  rl : r < q.heap.size
  gwn : w.heap.size ≤ gw
  gkn : w.heap.size ≤ gk
  gen : w.heap.size ≤ ge
  rgw : r ≠ gw
  rgk : r ≠ gk
  rge : r ≠ ge
  nge : N0 ≠ ge
theorem RlS.next {w q q' : World} {N0 gw gf gk ge r k k' : Nat} {A : Option Addr} {fs : List (List UInt8)} {c : Nat} {ok ok' : Bool} {x : Ev} (h : RlS w q N0 gw gf gk ge r k A fs c ok x) (hn : NxAt q' gw gf gk k' A fs.length c ok') (hk : Kept (nxRows gw gk) q q') : RlS w q' N0 gw gf gk ge r k' A fs c ok' x :=
  have hne : ∀ g (cs : Array Value), Lies q g 24 cs → ¬ nxRows gw gk g := fun g cs hl e => by
    rcases e with rfl | rfl
    · exact absurd (hl.same h.nx.cnt).1 (by decide)
    · exact absurd (hl.same h.nx.okk).1 (by decide)
  ⟨h.bel.trans (hk.below h.bel.size (fun i hi e => by rcases e with rfl | rfl; exact absurd h.gwn (by omega); exact absurd h.gkn (by omega))), hn, h.res.kept hk (hne _ _ h.res), h.evt.kept hk (hne _ _ h.evt),
    h.fld.kept hk h.rl (fun e => by rcases e with e | e; exact h.rgw e; exact h.rgk e), Nat.lt_of_lt_of_le h.rl hk.size, h.gwn, h.gkn, h.gen, h.rgw, h.rgk, h.rge, h.nge⟩
theorem RlS.row {w q : World} {N0 gw gf gk ge r k : Nat} {A : Option Addr} {fs : List (List UInt8)} {c : Nat} {ok : Bool} {x : Ev} (h : RlS w q N0 gw gf gk ge r k A fs c ok x) : ∀ i f, fs[i]? = some f → ∃ b off, A = some ⟨b, off, none⟩ ∧ b < q.heap.size ∧ q.cell? ⟨b, off + i, none⟩ = some (.string (textB f)) ∧ b ≠ gw := fun i f hf => by
  obtain ⟨off, e, hc⟩ := h.fld (fun e => by rw [e] at hf; cases hf)
  exact ⟨r, off, e, h.rl, hc i f hf, h.rgw⟩
theorem RlS.put {w q : World} {N0 gw gf gk ge r k : Nat} {A : Option Addr} {fs : List (List UInt8)} {c : Nat} {ok : Bool} {x x' : Ev} (h : RlS w q N0 gw gf gk ge r k A fs c ok x) (i : Nat) (u : Value) (hx : (evC x).setIfInBounds i u = evC x') : RlS w (q.setCell ⟨ge, i, none⟩ u) N0 gw gf gk ge r k A fs c ok x' :=
  have hk := Kept.put q ge i u
  ⟨h.bel.trans (hk.below h.bel.size (fun j hj (e : j = ge) => by have := h.gen; omega)),
    ⟨h.nx.cnt.far (p := ⟨ge, i, none⟩) (fun (e : gw = ge) => by subst e; exact absurd (h.nx.cnt.same h.evt).1 (by decide)) u, h.nx.fld.far (p := ⟨ge, i, none⟩) (fun (e : gf = ge) => by subst e; exact absurd (h.nx.fld.same h.evt).1 (by decide)) u, h.nx.okk.far (p := ⟨ge, i, none⟩) (fun (e : gk = ge) => by subst e; exact absurd (h.nx.okk.same h.evt).1 (by decide)) u⟩,
    h.res.far (p := ⟨ge, i, none⟩) h.nge u, (by have := h.evt.put i u; rwa [hx] at this), h.fld.kept hk h.rl h.rge, by simpa using h.rl, h.gwn, h.gkn, h.gen, h.rgw, h.rgk, h.rge, h.nge⟩
theorem below_res5 {w w2 : World} (hb : Below w.heap.size w w2) (N : Nat) (a b c d e : Value) (h : w.heap.size ≤ N) : Below w.heap.size w (((((w2.setCell ⟨N, 0, none⟩ a).setCell ⟨N, 1, none⟩ b).setCell ⟨N, 2, none⟩ c).setCell ⟨N, 3, none⟩ d).setCell ⟨N, 4, none⟩ e) := by
  have k := ((((Kept.put w2 N 0 a).trans (Kept.put _ N 1 b) (fun _ _ h => h)).trans (Kept.put _ N 2 c) (fun _ _ h => h)).trans (Kept.put _ N 3 d) (fun _ _ h => h)).trans (Kept.put _ N 4 e) (fun _ _ h => h)
  exact hb.trans (k.below hb.size (fun j hj (e : j = N) => by omega))
theorem RlS.below {w q q' : World} {N0 gw gf gk ge r k : Nat} {A : Option Addr} {fs : List (List UInt8)} {c : Nat} {ok : Bool} {x : Ev} (h : RlS w q N0 gw gf gk ge r k A fs c ok x) (hb : Below q.heap.size q q') : RlS w q' N0 gw gf gk ge r k A fs c ok x :=
  ⟨h.bel.trans (hb.mono h.bel.size), h.nx.below hb, h.res.below hb h.res.lt, h.evt.below hb h.evt.lt, h.fld.kept (Kept.of_below hb) h.rl (fun e => e), Nat.lt_of_lt_of_le h.rl hb.size, h.gwn, h.gkn, h.gen, h.rgw, h.rgk, h.rge, h.nge⟩
def RlPost (bs : List UInt8) (w : World) (e : Ending) (w' : World) : Prop := ∃ x ok, e = .returned (.tuple #[.agg (evC x), .bool ok]) ∧ LnIs bs x ok ∧ Below w.heap.size w w'
set_option maxHeartbeats 16000000 in
set_option maxRecDepth 100000 in
theorem readLine15 (bs : List UInt8) (w : World) (h : EvnAt w) (hbs : bs.length ≤ 8796093022000) :
    Calls Tryd.prog 35 #[.string (textB bs)] w (RlPost bs w) := by
  have hb0 : Below w.heap.size w (w.alloc (.cells (evC ev0) 24)) := (Below.refl _ _).alloc (Nat.le_refl _) _
  have l0 := Lies.made w 24 (evC ev0)
  have hgl := h.lt
  have HEN := Lib.hid (fun (q : World) (hq : Below w.heap.size w q) => h.later hq hgl)
  have HB := Lib.hid hb0
  have HL := Lib.hid l0
  have hsp := fun (q : World) => split15 bs q hbs
  have HSP := Lib.hid hsp
  obtain ⟨N0, hN0⟩ : ∃ N, w.heap.size = N := ⟨_, rfl⟩
  have HN0 := Lib.hid hN0
  clear h hb0 l0 hsp hN0
  go_enter Tryd.func35, Tryd.ntmps35
  go_wp2_with fail
  rw [HN0.out] at HL
  simp only [HN0.out]
  generalize w.alloc (.cells (evC ev0) 24) = w1 at *
  refine (HSP.out _).mono ?_
  rintro e w2 ⟨v, ws, rfl, hw, ho, hb⟩
  clear HSP
  have HB2 := Lib.hid (HB.out.trans (hb.mono HB.out.size))
  have HL2 := Lib.hid (HL.out.below hb HL.out.lt)
  have HO2 := Lib.hid (owns_mono ho HB.out.size)
  have HW := Lib.hid hw
  have hz1 := HB.out.size
  clear ho hb hw HB HL
  obtain ⟨A9, c9, rfl⟩ := own_sliceD HO2.out
  by_cases hlt : ws.length < 2
  · have e1 : decide (ws.length < 2) = true := decide_eq_true hlt
    have e2 : decide ((ws.length : Int) < 2) = true := decide_eq_true (by omega)
    have HLN := Lib.hid (ln_short HW.out hlt)
    have lt := HL2.out.lt
    have f0 := HL2.out.free 0
    have f1 := HL2.out.free 1
    have f2 := HL2.out.free 2
    have f3 := HL2.out.free 3
    have f4 := HL2.out.free 4
    have c0 := (HL2.out.cell 0).trans (show _ = some (Value.int .i64 0) from rfl)
    have c1 := (HL2.out.cell 1).trans (show _ = some (Value.int .i64 0) from rfl)
    have c2 := (HL2.out.cell 2).trans (show _ = some (Value.int .i64 0) from rfl)
    have c3 := (HL2.out.cell 3).trans (show _ = some (Value.int .u64 0) from rfl)
    have c4 := (HL2.out.cell 4).trans (show _ = some (Value.int .u64 0) from rfl)
    clear hlt HW HO2
    have HBR := Lib.hid (below_res5 HB2.out N0 (.int .i64 0) (.int .i64 0) (.int .i64 0) (.int .u64 0) (.int .u64 0) (Nat.le_of_eq HN0.out))
    have HLR := Lib.hid ((((HL2.out.put 0 (.int .i64 0)).put 1 (.int .i64 0)).put 2 (.int .i64 0)).put 3 (.int .u64 0) |>.put 4 (.int .u64 0))
    have Q0 := Lib.hid ((HLR.out.cell 0).trans (show _ = some (Value.int .i64 (ev0).th) from rfl))
    have Q1 := Lib.hid ((HLR.out.cell 1).trans (show _ = some (Value.int .i64 (ev0).kd) from rfl))
    have Q2 := Lib.hid ((HLR.out.cell 2).trans (show _ = some (Value.int .i64 (ev0).rg) from rfl))
    have Q3 := Lib.hid ((HLR.out.cell 3).trans (show _ = some (Value.int .u64 ((ev0).tk : Int)) from rfl))
    have Q4 := Lib.hid ((HLR.out.cell 4).trans (show _ = some (Value.int .u64 ((ev0).vl : Int)) from rfl))
    go_wp2
    refine bodyPost_ret (v := .tuple #[.agg (evC ev0), .bool false]) (by simp [results, Tryd.results35, go_sem, Q0.out, Q1.out, Q2.out, Q3.out, Q4.out]) rfl ?_
    exact ⟨_, _, rfl, HLN.out, HBR.out⟩
  · have e1 : decide (ws.length < 2) = false := decide_eq_false hlt
    have e2 : decide ((ws.length : Int) < 2) = false := decide_eq_false (by omega)
    obtain ⟨w0, w1', fs, rfl⟩ : ∃ a b l, ws = a :: b :: l := by
      match ws, hlt with
      | [], h => exact absurd (by simp) h
      | [a], h => exact absurd (by simp) h
      | a :: b :: l, _ => exact ⟨a, b, l, rfl⟩
    obtain ⟨g, cap, hv, hg1, hg2, hnc, hcm, hcell⟩ := ownsRow_open HO2.out (by simp)
    simp only [Value.slice.injEq, true_and] at hv
    obtain ⟨rfl, rfl⟩ := hv
    have q0 := hcell 0 (.string (textB w0)) rfl
    have q1 := hcell 1 (.string (textB w1')) rfl
    have ql := World.block_lt_of_cell? _ _ q0
    unfold maxLen at hcm
    have HCELL := Lib.hid hcell
    have HEF := Lib.hid (fun q hq => efind_any (textB w1') q (HEN.out q hq))
    obtain ⟨nl, hnl⟩ : ∃ nl, (w0 :: w1' :: fs).length = nl := ⟨_, rfl⟩
    have hnl2 : 2 ≤ nl := by rw [← hnl]; simp
    have HNL : Hid (nl = fs.length + 2) := by show _ = _; rw [← hnl]; simp
    rw [hnl] at hnc e1 e2
    simp only [hnl]
    clear hcell hlt
    go_wp2_with fail
    refine (HEF.out _ HB2.out).mono ?_
    rintro e w' ⟨rfl, rfl⟩
    go_upto_region 6 with (fail)
    obtain ⟨AF, hAF⟩ : ∃ B, (if c9 = 2 then some (⟨g, 0, none⟩ : Addr) else some ⟨g, 2, none⟩) = B := ⟨_, rfl⟩
    simp only [hAF]
    have hfld : FldAt w2 g AF fs := fun hne => by
      have hl : 0 < fs.length := List.length_pos_iff.2 hne
      have hc2 : c9 ≠ 2 := by have := HNL.out; omega
      rw [if_neg hc2] at hAF
      refine ⟨2, hAF.symm, fun i f hf => ?_⟩
      exact HCELL.out (2 + i) _ (by simp [cellsW]; rw [show 2 + i = i + 1 + 1 by omega]; simp [hf])
    have hnone : AF = none → fs = [] := fun h => by
      rw [h] at hAF
      split at hAF <;> cases hAF
    obtain ⟨n2, hn2⟩ : ∃ n, w2.heap.size = n := ⟨_, rfl⟩
    have hfn : fs.length = nl - 2 := by have := HNL.out; omega
    have hb3 : Below w2.heap.size w2 (((w2.alloc (.cells #[.bool (efN (textB w1') != 0)] 4)).alloc (.cells #[.slice AF (nl - 2) (c9 - 2)] 57)).alloc (.cells #[.int .i64 0] 3)) :=
      (((Below.refl _ _).alloc (Nat.le_refl _) _).alloc (by simp) _).alloc (by simp; omega) _
    have m1 := ((Lies.made w2 4 #[.bool (efN (textB w1') != 0)]).alloc (.cells #[.slice AF (nl - 2) (c9 - 2)] 57)).alloc (.cells #[.int .i64 0] 3)
    have m2 := (Lies.made (w2.alloc (.cells #[.bool (efN (textB w1') != 0)] 4)) 57 #[.slice AF (nl - 2) (c9 - 2)]).alloc (.cells #[.int .i64 0] 3)
    have m3 := Lies.made ((w2.alloc (.cells #[.bool (efN (textB w1') != 0)] 4)).alloc (.cells #[.slice AF (nl - 2) (c9 - 2)] 57)) 3 #[.int .i64 0]
    have HB3 := Lib.hid (HB2.out.trans (hb3.mono HB2.out.size))
    have q0' := cell_later q0 hb3
    have HL3 := Lib.hid (HL2.out.below hb3 HL2.out.lt)
    have hfld3 := hfld.kept (Kept.of_below hb3) ql (fun e => e)
    have HF3 := Lib.hid hfld3
    have hs3 := hb3.size
    simp only [World.size_alloc, hn2] at m1 m2 m3 hs3
    rw [← hfn] at m1 m2 m3
    have hn3 : n2 < (((w2.alloc (.cells #[.bool (efN (textB w1') != 0)] 4)).alloc (.cells #[.slice AF (nl - 2) (c9 - 2)] 57)).alloc (.cells #[.int .i64 0] 3)).heap.size := by simp [hn2]; omega
    have HN3 : Hid (NxAt (((w2.alloc (.cells #[.bool (efN (textB w1') != 0)] 4)).alloc (.cells #[.slice AF (nl - 2) (c9 - 2)] 57)).alloc (.cells #[.int .i64 0] 3)) (n2 + 1 + 1) (n2 + 1) n2 0 AF fs.length (c9 - 2) (efN (textB w1') != 0)) := by
      rw [← hfn]
      exact ⟨m3, m2, m1⟩
    have hgn : g < n2 := by omega
    have hN0n : N0 < n2 := by have := HL2.out.lt; omega
    have hwn : w.heap.size ≤ n2 := by have := HB2.out.size; omega
    have hnon := Lib.hid hnone
    simp only [hn2]
    clear hAF hfld hb3 m1 m2 m3 q0 q1 HL2 HB2 HO2 hfld3 hs3 HCELL HEF hnone
    generalize (((w2.alloc (.cells #[.bool (efN (textB w1') != 0)] 4)).alloc (.cells #[.slice AF (nl - 2) (c9 - 2)] 57)).alloc (.cells #[.int .i64 0] 3)) = w3 at *
    have gl3 := World.block_lt_of_cell? _ _ q0'
    have hmf : ∀ (fn : Fn) (first cap : Array Value) (w : World), (Instr.makeFunc fn first cap).run Tryd.prog w = .ok (.func fn first cap) w := fun _ _ _ _ => rfl
    have hw0 : w0.length ≤ 140737488355328 := by
      have h1 := HW.out.join
      rw [joinW_cons] at h1
      have := congrArg List.length h1
      rw [List.length_append] at this
      omega
    go_wp2_with fail
    refine (number15v w0 _ hw0).mono ?_
    rintro e w' ⟨rfl, rfl⟩
    go_wp2_with fail
    refine (small15 (numV w0) _ (numV_lt w0)).mono ?_
    rintro e w' ⟨rfl, rfl⟩
    go_upto_region 9 with (fail)
    obtain ⟨K, hK⟩ : ∃ K, efN (textB w1') = K := ⟨_, rfl⟩
    have HK := Lib.hid hK
    simp only [hK]
    rw [hK] at HN3
    have hK15 : K ≤ 15 := by rw [← hK]; exact efN_le _
    clear hK
    have hbx : Below w3.heap.size w3 (w3.alloc (.cells (evC ⟨smI (numV w0), K, 0, 0, 0⟩) 24)) := (Below.refl _ _).alloc (Nat.le_refl _) _
    have HS := Lib.hid (show RlS w (w3.alloc (.cells (evC ⟨smI (numV w0), K, 0, 0, 0⟩) 24)) N0 (n2 + 1 + 1) (n2 + 1) n2 w3.heap.size g 0 AF fs (c9 - 2) (K != 0) ⟨smI (numV w0), K, 0, 0, 0⟩ from
      ⟨HB3.out.trans (hbx.mono HB3.out.size), HN3.out.below hbx, HL3.out.below hbx HL3.out.lt, Lies.made _ _ _, HF3.out.kept (Kept.of_below hbx) gl3 (fun e => e), by simp; omega, by omega, hwn, HB3.out.size, by omega, by omega, by omega, by have := HL3.out.lt; omega⟩)
    clear hbx HN3 HL3 HF3 q0' gl3 HB3 hgn hN0n hwn hn2 hg1 hg2 ql
    generalize w3.heap.size = ge at *
    generalize w3.alloc (.cells (evC ⟨smI (numV w0), K, 0, 0, 0⟩) 24) = w4 at *
    generalize n2 + 1 + 1 = gw at *
    generalize n2 + 1 = gf at *
    have HFI : Hid (rlF K w0 fs = (rlO K fs && (numB w0 && ((rlC K == fs.length) && rightE (rlX K w0 fs))))) := rfl
    have HYES : Hid (rlF K w0 fs = true → LnIs bs (rlX K w0 fs) true) := fun h => by
      have := HK.out
      subst this
      exact ln_yes HW.out h
    have HNO : Hid (rlF K w0 fs = false → LnIs bs ev0 false) := fun h => by
      have := HK.out
      subst this
      exact ln_no HW.out h
    have HRX : Hid (rlX K w0 fs = ⟨smI (numV w0), (K : Int), if ringB (K : Int) = true then smI (nxV fs 0) else 0, if ticketB (K : Int) = true then nxV fs 1 else 0, if valueB (K : Int) = true then nxV fs 0 else 0⟩) := rfl
    have HRC : Hid (rlC K = if ticketB (K : Int) = true then 2 else if ringB (K : Int) = true then 1 else if valueB (K : Int) = true then 1 else 0) := rfl
    have HRO : Hid (rlO K fs = if rlC K = 2 then nxB fs 1 (nxB fs 0 (K != 0)) else if rlC K = 1 then nxB fs 0 (K != 0) else (K != 0)) := rfl
    have HFL : Hid (∀ f ∈ fs, f.length ≤ 140737488355328) := by
      have h1 := HW.out.join
      refine fun f hf => ?_
      have hm : ∀ (ws : List (List UInt8)), f ∈ ws → f.length ≤ (joinW 32 ws).length := by
        intro ws
        induction ws with
        | nil => intro h; cases h
        | cons a l ih =>
          intro h
          cases l with
          | nil => simp at h; subst h; exact Nat.le_refl _
          | cons b l =>
            rw [joinW_cons, List.length_append, List.length_cons]
            rcases List.mem_cons.1 h with rfl | h
            · omega
            · have := ih h; omega
      have h2 := hm (w0 :: w1' :: fs) (by simp [hf])
      rw [h1] at h2
      omega
    have hc9 : fs.length ≤ c9 - 2 := by omega
    have hcm9 : c9 - 2 ≤ maxLen := by unfold maxLen; omega
    have HNX := Lib.hid (fun (k : Nat) (ok : Bool) (x : Ev) (q : World) (hk : k ≤ 10) (h : RlS w q N0 gw gf n2 ge g k AF fs (c9 - 2) ok x) => next15 gw gf n2 k AF (c9 - 2) fs ok q h.nx hk hc9 hcm9 hnon.out h.row HFL.out)
    have HRG := Lib.hid (fun q => rings_any (K : Int) q)
    have HTK := Lib.hid (fun q => hasTicket_any (K : Int) q)
    have HVL := Lib.hid (fun q => hasValue_any (K : Int) q)
    have HV0 := nxV_lt fs 0
    have HV1 := nxV_lt fs 1
    clear hnon hmf hnl hnl2 HNL hnc e1 e2 hcm HFL hc9 hcm9 HK HW
    clear hfn
    rcases kinds_apart (K : Int) with ⟨k1, k2, k3⟩ | ⟨k1, k2, k3⟩ | ⟨k1, k2, k3⟩ | ⟨k1, k2, k3⟩
    all_goals
      rw [k1, k2, k3] at HRX HRC
      rw [k1] at HTK
      rw [k2] at HRG
      rw [k3] at HVL
      clear k1 k2 k3
      go_wp2_with fail
      refine (HRG.out _).mono ?_
      rintro e w' ⟨rfl, rfl⟩
    · go_wp2_with fail
      refine (HNX.out 0 _ _ _ (by omega) HS.out).mono ?_
      rintro e w5 ⟨rfl, hn5, hk5⟩
      have HS5 := Lib.hid (HS.out.next hn5 hk5)
      clear HS hn5 hk5
      go_wp2_with fail
      refine (small15 (nxV fs 0) _ HV0).mono ?_
      rintro e w' ⟨rfl, rfl⟩
      have f9 := (HS5).out.evt.free 2
      have l9 := (HS5).out.evt.lt
      have p9 := ((HS5).out.evt.cell 2).trans (show _ = some ((Value.int .i64 0)) from rfl)
      go_upto_region 11 with (fail)
      have HS6 := Lib.hid (HS5.out.put 2 (.int .i64 (smI (nxV fs 0))) (x' := ⟨smI (numV w0), (K : Int), smI (nxV fs 0), 0, 0⟩) rfl)
      clear f9 l9 p9 HS5
      generalize w5.setCell ⟨ge, 2, none⟩ (.int .i64 (smI (nxV fs 0))) = w6 at *
      go_wp2_with fail
      refine (HTK.out _).mono ?_
      rintro e w' ⟨rfl, rfl⟩
      go_wp2_with fail
      refine (HNX.out _ _ _ _ (by omega) HS6.out).mono ?_
      rintro e w7 ⟨rfl, hn5, hk5⟩
      have HS7 := Lib.hid (HS6.out.next hn5 hk5)
      clear HS6 hn5 hk5
      have f9 := (HS7).out.evt.free 3
      have l9 := (HS7).out.evt.lt
      have p9 := ((HS7).out.evt.cell 3).trans (show _ = some ((Value.int .u64 0)) from rfl)
      go_upto_region 13 with (fail)
      have HS8 := Lib.hid (HS7.out.put 3 (.int .u64 ((nxV fs 1 : Nat) : Int)) (x' := ⟨smI (numV w0), (K : Int), smI (nxV fs 0), nxV fs 1, 0⟩) rfl)
      clear f9 l9 p9 HS7
      generalize w7.setCell ⟨ge, 3, none⟩ (.int .u64 ((nxV fs 1 : Nat) : Int)) = w8 at *
      go_wp2_with fail
      refine (HVL.out _).mono ?_
      rintro e w' ⟨rfl, rfl⟩
      simp only [if_true, if_false, Bool.false_eq_true] at HRX HRC
      have HF0 : rlF K w0 fs = ((nxB fs 1 (nxB fs 0 (K != 0))) && (numB w0 && ((2 == fs.length) && rightE (rlX K w0 fs)))) := by
        rw [HFI.out, HRO.out, HRC.out]; rfl
      have hxe := HRX.out
      rw [hxe] at HF0 HYES
      obtain ⟨x9, hx9⟩ : ∃ x, rlX K w0 fs = x := ⟨_, rfl⟩
      rw [hxe] at hx9
      rw [hx9] at HF0 HYES
      have HT0 := (HS8).out
      rw [hx9] at HT0
      have HX9 := Lib.hid hx9
      clear hxe hx9
      obtain ⟨okb, hok⟩ : ∃ b, (nxB fs 1 (nxB fs 0 (K != 0))) = b := ⟨_, rfl⟩
      rw [hok] at HT0 HF0
      clear hok
      have HF := Lib.hid HF0
      have HT := Lib.hid HT0
      clear HF0 HT0 HFI HRX HRC HRO HNX HRG HTK HVL HS8
      have b0 := (HT.out.nx.okk.cell 0).trans (show _ = some (Value.bool okb) from rfl)
      have bl := HT.out.nx.okk.lt
      have n0 := (HT.out.nx.cnt.cell 0).trans (show _ = some (Value.int .i64 2) from rfl)
      have nl0 := HT.out.nx.cnt.lt
      have d0 := (HT.out.nx.fld.cell 0).trans (show _ = some (Value.slice AF fs.length (c9 - 2)) from rfl)
      have dl := HT.out.nx.fld.lt
      generalize hnb0 : numB w0 = nb at *
      clear hnb0
      cases okb
      case false =>
        have HLN := Lib.hid (HNO.out (by first | (rw [HF.out]; done) | (rw [HF.out]; simp [*])))
        have lt := (HT).out.res.lt
        have f0 := (HT).out.res.free 0
        have f1 := (HT).out.res.free 1
        have f2 := (HT).out.res.free 2
        have f3 := (HT).out.res.free 3
        have f4 := (HT).out.res.free 4
        have r0 := ((HT).out.res.cell 0).trans (show _ = some (Value.int .i64 0) from rfl)
        have r1 := ((HT).out.res.cell 1).trans (show _ = some (Value.int .i64 0) from rfl)
        have r2 := ((HT).out.res.cell 2).trans (show _ = some (Value.int .i64 0) from rfl)
        have r3 := ((HT).out.res.cell 3).trans (show _ = some (Value.int .u64 0) from rfl)
        have r4 := ((HT).out.res.cell 4).trans (show _ = some (Value.int .u64 0) from rfl)
        have HBR := Lib.hid (below_res5 (HT).out.bel N0 (.int .i64 0) (.int .i64 0) (.int .i64 0) (.int .u64 0) (.int .u64 0) (Nat.le_of_eq HN0.out))
        have HLR := Lib.hid ((((((HT).out.res.put 0 (.int .i64 0)).put 1 (.int .i64 0)).put 2 (.int .i64 0)).put 3 (.int .u64 0)).put 4 (.int .u64 0))
        have Q0 := Lib.hid ((HLR.out.cell 0).trans (show _ = some (Value.int .i64 (ev0).th) from rfl))
        have Q1 := Lib.hid ((HLR.out.cell 1).trans (show _ = some (Value.int .i64 (ev0).kd) from rfl))
        have Q2 := Lib.hid ((HLR.out.cell 2).trans (show _ = some (Value.int .i64 (ev0).rg) from rfl))
        have Q3 := Lib.hid ((HLR.out.cell 3).trans (show _ = some (Value.int .u64 ((ev0).tk : Int)) from rfl))
        have Q4 := Lib.hid ((HLR.out.cell 4).trans (show _ = some (Value.int .u64 ((ev0).vl : Int)) from rfl))
        clear HF HNO HYES
        go_wp2
        refine bodyPost_ret (v := .tuple #[.agg (evC ev0), .bool false]) (by simp [results, Tryd.results35, go_sem, Q0.out, Q1.out, Q2.out, Q3.out, Q4.out]) rfl ?_
        exact ⟨_, _, rfl, HLN.out, HBR.out⟩
      cases nb
      case false =>
        have HLN := Lib.hid (HNO.out (by first | (rw [HF.out]; done) | (rw [HF.out]; simp [*])))
        have lt := (HT).out.res.lt
        have f0 := (HT).out.res.free 0
        have f1 := (HT).out.res.free 1
        have f2 := (HT).out.res.free 2
        have f3 := (HT).out.res.free 3
        have f4 := (HT).out.res.free 4
        have r0 := ((HT).out.res.cell 0).trans (show _ = some (Value.int .i64 0) from rfl)
        have r1 := ((HT).out.res.cell 1).trans (show _ = some (Value.int .i64 0) from rfl)
        have r2 := ((HT).out.res.cell 2).trans (show _ = some (Value.int .i64 0) from rfl)
        have r3 := ((HT).out.res.cell 3).trans (show _ = some (Value.int .u64 0) from rfl)
        have r4 := ((HT).out.res.cell 4).trans (show _ = some (Value.int .u64 0) from rfl)
        have HBR := Lib.hid (below_res5 (HT).out.bel N0 (.int .i64 0) (.int .i64 0) (.int .i64 0) (.int .u64 0) (.int .u64 0) (Nat.le_of_eq HN0.out))
        have HLR := Lib.hid ((((((HT).out.res.put 0 (.int .i64 0)).put 1 (.int .i64 0)).put 2 (.int .i64 0)).put 3 (.int .u64 0)).put 4 (.int .u64 0))
        have Q0 := Lib.hid ((HLR.out.cell 0).trans (show _ = some (Value.int .i64 (ev0).th) from rfl))
        have Q1 := Lib.hid ((HLR.out.cell 1).trans (show _ = some (Value.int .i64 (ev0).kd) from rfl))
        have Q2 := Lib.hid ((HLR.out.cell 2).trans (show _ = some (Value.int .i64 (ev0).rg) from rfl))
        have Q3 := Lib.hid ((HLR.out.cell 3).trans (show _ = some (Value.int .u64 ((ev0).tk : Int)) from rfl))
        have Q4 := Lib.hid ((HLR.out.cell 4).trans (show _ = some (Value.int .u64 ((ev0).vl : Int)) from rfl))
        clear HF HNO HYES
        go_wp2
        refine bodyPost_ret (v := .tuple #[.agg (evC ev0), .bool false]) (by simp [results, Tryd.results35, go_sem, Q0.out, Q1.out, Q2.out, Q3.out, Q4.out]) rfl ?_
        exact ⟨_, _, rfl, HLN.out, HBR.out⟩
      by_cases hcn : 2 = fs.length
      case neg =>
        have e3 : ((2 : Int) == (fs.length : Int)) = false := by rw [beq_eq_false_iff_ne]; omega
        have e4 : ((2 : Int) != (fs.length : Int)) = true := by rw [bne_iff_ne]; omega
        have e5 : (2 == fs.length) = false := by rw [beq_eq_false_iff_ne]; omega
        have e6 : (fs.length == 2) = false := by rw [beq_eq_false_iff_ne]; omega
        clear hcn
        have HLN := Lib.hid (HNO.out (by first | (rw [HF.out]; done) | (rw [HF.out]; simp [*])))
        have lt := (HT).out.res.lt
        have f0 := (HT).out.res.free 0
        have f1 := (HT).out.res.free 1
        have f2 := (HT).out.res.free 2
        have f3 := (HT).out.res.free 3
        have f4 := (HT).out.res.free 4
        have r0 := ((HT).out.res.cell 0).trans (show _ = some (Value.int .i64 0) from rfl)
        have r1 := ((HT).out.res.cell 1).trans (show _ = some (Value.int .i64 0) from rfl)
        have r2 := ((HT).out.res.cell 2).trans (show _ = some (Value.int .i64 0) from rfl)
        have r3 := ((HT).out.res.cell 3).trans (show _ = some (Value.int .u64 0) from rfl)
        have r4 := ((HT).out.res.cell 4).trans (show _ = some (Value.int .u64 0) from rfl)
        have HBR := Lib.hid (below_res5 (HT).out.bel N0 (.int .i64 0) (.int .i64 0) (.int .i64 0) (.int .u64 0) (.int .u64 0) (Nat.le_of_eq HN0.out))
        have HLR := Lib.hid ((((((HT).out.res.put 0 (.int .i64 0)).put 1 (.int .i64 0)).put 2 (.int .i64 0)).put 3 (.int .u64 0)).put 4 (.int .u64 0))
        have Q0 := Lib.hid ((HLR.out.cell 0).trans (show _ = some (Value.int .i64 (ev0).th) from rfl))
        have Q1 := Lib.hid ((HLR.out.cell 1).trans (show _ = some (Value.int .i64 (ev0).kd) from rfl))
        have Q2 := Lib.hid ((HLR.out.cell 2).trans (show _ = some (Value.int .i64 (ev0).rg) from rfl))
        have Q3 := Lib.hid ((HLR.out.cell 3).trans (show _ = some (Value.int .u64 ((ev0).tk : Int)) from rfl))
        have Q4 := Lib.hid ((HLR.out.cell 4).trans (show _ = some (Value.int .u64 ((ev0).vl : Int)) from rfl))
        clear HF HNO HYES
        go_wp2
        refine bodyPost_ret (v := .tuple #[.agg (evC ev0), .bool false]) (by simp [results, Tryd.results35, go_sem, Q0.out, Q1.out, Q2.out, Q3.out, Q4.out]) rfl ?_
        exact ⟨_, _, rfl, HLN.out, HBR.out⟩
      have e3 : ((2 : Int) == (fs.length : Int)) = true := by rw [beq_iff_eq]; omega
      have e4 : ((2 : Int) != (fs.length : Int)) = false := by rw [bne_eq_false_iff_eq]; omega
      have e5 : (2 == fs.length) = true := by rw [beq_iff_eq]; omega
      have HF2 : Hid (rlF K w0 fs = rightE x9) := by
        show _ = _
        rw [HF.out, e5]; rfl
      clear hcn e5
      have HRI := Lib.hid (right15 x9)
      have c0 := (HT.out.evt.cell 0).trans (show _ = some (Value.int .i64 x9.th) from rfl)
      have c1 := (HT.out.evt.cell 1).trans (show _ = some (Value.int .i64 x9.kd) from rfl)
      have c2 := (HT.out.evt.cell 2).trans (show _ = some (Value.int .i64 x9.rg) from rfl)
      have c3 := (HT.out.evt.cell 3).trans (show _ = some (Value.int .u64 (x9.tk : Int)) from rfl)
      have c4 := (HT.out.evt.cell 4).trans (show _ = some (Value.int .u64 (x9.vl : Int)) from rfl)
      have cl := HT.out.evt.lt
      clear HF
      have HF := HF2
      clear HF2
      go_wp2_with fail
      refine (HRI.out _).mono ?_
      rintro e wz ⟨rfl, hbz⟩
      have HU := Lib.hid (HT.out.below hbz)
      clear HRI c0 c1 c2 c3 c4 cl b0 bl n0 nl0 d0 dl HT hbz
      generalize hrr : rightE x9 = rr at *
      clear hrr
      cases rr
      case false =>
        have HLN := Lib.hid (HNO.out (by first | (rw [HF.out]; done) | (rw [HF.out]; simp [*])))
        have lt := (HU).out.res.lt
        have f0 := (HU).out.res.free 0
        have f1 := (HU).out.res.free 1
        have f2 := (HU).out.res.free 2
        have f3 := (HU).out.res.free 3
        have f4 := (HU).out.res.free 4
        have r0 := ((HU).out.res.cell 0).trans (show _ = some (Value.int .i64 0) from rfl)
        have r1 := ((HU).out.res.cell 1).trans (show _ = some (Value.int .i64 0) from rfl)
        have r2 := ((HU).out.res.cell 2).trans (show _ = some (Value.int .i64 0) from rfl)
        have r3 := ((HU).out.res.cell 3).trans (show _ = some (Value.int .u64 0) from rfl)
        have r4 := ((HU).out.res.cell 4).trans (show _ = some (Value.int .u64 0) from rfl)
        have HBR := Lib.hid (below_res5 (HU).out.bel N0 (.int .i64 0) (.int .i64 0) (.int .i64 0) (.int .u64 0) (.int .u64 0) (Nat.le_of_eq HN0.out))
        have HLR := Lib.hid ((((((HU).out.res.put 0 (.int .i64 0)).put 1 (.int .i64 0)).put 2 (.int .i64 0)).put 3 (.int .u64 0)).put 4 (.int .u64 0))
        have Q0 := Lib.hid ((HLR.out.cell 0).trans (show _ = some (Value.int .i64 (ev0).th) from rfl))
        have Q1 := Lib.hid ((HLR.out.cell 1).trans (show _ = some (Value.int .i64 (ev0).kd) from rfl))
        have Q2 := Lib.hid ((HLR.out.cell 2).trans (show _ = some (Value.int .i64 (ev0).rg) from rfl))
        have Q3 := Lib.hid ((HLR.out.cell 3).trans (show _ = some (Value.int .u64 ((ev0).tk : Int)) from rfl))
        have Q4 := Lib.hid ((HLR.out.cell 4).trans (show _ = some (Value.int .u64 ((ev0).vl : Int)) from rfl))
        clear HF HNO HYES
        go_wp2
        refine bodyPost_ret (v := .tuple #[.agg (evC ev0), .bool false]) (by simp [results, Tryd.results35, go_sem, Q0.out, Q1.out, Q2.out, Q3.out, Q4.out]) rfl ?_
        exact ⟨_, _, rfl, HLN.out, HBR.out⟩
      have HLN := Lib.hid (HYES.out HF.out)
      have c0 := (HU.out.evt.cell 0).trans (show _ = some (Value.int .i64 x9.th) from rfl)
      have c1 := (HU.out.evt.cell 1).trans (show _ = some (Value.int .i64 x9.kd) from rfl)
      have c2 := (HU.out.evt.cell 2).trans (show _ = some (Value.int .i64 x9.rg) from rfl)
      have c3 := (HU.out.evt.cell 3).trans (show _ = some (Value.int .u64 (x9.tk : Int)) from rfl)
      have c4 := (HU.out.evt.cell 4).trans (show _ = some (Value.int .u64 (x9.vl : Int)) from rfl)
      have cl := HU.out.evt.lt
      have lt := (HU).out.res.lt
      have f0 := (HU).out.res.free 0
      have f1 := (HU).out.res.free 1
      have f2 := (HU).out.res.free 2
      have f3 := (HU).out.res.free 3
      have f4 := (HU).out.res.free 4
      have r0 := ((HU).out.res.cell 0).trans (show _ = some (Value.int .i64 0) from rfl)
      have r1 := ((HU).out.res.cell 1).trans (show _ = some (Value.int .i64 0) from rfl)
      have r2 := ((HU).out.res.cell 2).trans (show _ = some (Value.int .i64 0) from rfl)
      have r3 := ((HU).out.res.cell 3).trans (show _ = some (Value.int .u64 0) from rfl)
      have r4 := ((HU).out.res.cell 4).trans (show _ = some (Value.int .u64 0) from rfl)
      have HBR := Lib.hid (below_res5 HU.out.bel N0 (.int .i64 x9.th) (.int .i64 x9.kd) (.int .i64 x9.rg) (.int .u64 (x9.tk : Int)) (.int .u64 (x9.vl : Int)) (Nat.le_of_eq HN0.out))
      have HLR := Lib.hid (((((HU.out.res.put 0 (.int .i64 x9.th)).put 1 (.int .i64 x9.kd)).put 2 (.int .i64 x9.rg)).put 3 (.int .u64 (x9.tk : Int))).put 4 (.int .u64 (x9.vl : Int)))
      have Q0 := Lib.hid ((HLR.out.cell 0).trans (show _ = some (Value.int .i64 (x9).th) from rfl))
      have Q1 := Lib.hid ((HLR.out.cell 1).trans (show _ = some (Value.int .i64 (x9).kd) from rfl))
      have Q2 := Lib.hid ((HLR.out.cell 2).trans (show _ = some (Value.int .i64 (x9).rg) from rfl))
      have Q3 := Lib.hid ((HLR.out.cell 3).trans (show _ = some (Value.int .u64 ((x9).tk : Int)) from rfl))
      have Q4 := Lib.hid ((HLR.out.cell 4).trans (show _ = some (Value.int .u64 ((x9).vl : Int)) from rfl))
      clear HF HNO HYES
      go_wp2
      refine bodyPost_ret (v := .tuple #[.agg (evC x9), .bool true]) (by simp [results, Tryd.results35, go_sem, Q0.out, Q1.out, Q2.out, Q3.out, Q4.out]) rfl ?_
      exact ⟨_, _, rfl, HLN.out, HBR.out⟩
    · go_wp2_with fail
      refine (HNX.out 0 _ _ _ (by omega) HS.out).mono ?_
      rintro e w5 ⟨rfl, hn5, hk5⟩
      have HS5 := Lib.hid (HS.out.next hn5 hk5)
      clear HS hn5 hk5
      go_wp2_with fail
      refine (small15 (nxV fs 0) _ HV0).mono ?_
      rintro e w' ⟨rfl, rfl⟩
      have f9 := (HS5).out.evt.free 2
      have l9 := (HS5).out.evt.lt
      have p9 := ((HS5).out.evt.cell 2).trans (show _ = some ((Value.int .i64 0)) from rfl)
      go_upto_region 11 with (fail)
      have HS8 := Lib.hid (HS5.out.put 2 (.int .i64 (smI (nxV fs 0))) (x' := ⟨smI (numV w0), (K : Int), smI (nxV fs 0), 0, 0⟩) rfl)
      clear f9 l9 p9 HS5
      generalize w5.setCell ⟨ge, 2, none⟩ (.int .i64 (smI (nxV fs 0))) = w6 at *
      go_wp2_with fail
      refine (HTK.out _).mono ?_
      rintro e w' ⟨rfl, rfl⟩
      go_wp2_with fail
      refine (HVL.out _).mono ?_
      rintro e w' ⟨rfl, rfl⟩
      simp only [if_true, if_false, Bool.false_eq_true] at HRX HRC
      have HF0 : rlF K w0 fs = ((nxB fs 0 (K != 0)) && (numB w0 && ((1 == fs.length) && rightE (rlX K w0 fs)))) := by
        rw [HFI.out, HRO.out, HRC.out]; rfl
      have hxe := HRX.out
      rw [hxe] at HF0 HYES
      obtain ⟨x9, hx9⟩ : ∃ x, rlX K w0 fs = x := ⟨_, rfl⟩
      rw [hxe] at hx9
      rw [hx9] at HF0 HYES
      have HT0 := (HS8).out
      rw [hx9] at HT0
      have HX9 := Lib.hid hx9
      clear hxe hx9
      obtain ⟨okb, hok⟩ : ∃ b, (nxB fs 0 (K != 0)) = b := ⟨_, rfl⟩
      rw [hok] at HT0 HF0
      clear hok
      have HF := Lib.hid HF0
      have HT := Lib.hid HT0
      clear HF0 HT0 HFI HRX HRC HRO HNX HRG HTK HVL HS8
      have b0 := (HT.out.nx.okk.cell 0).trans (show _ = some (Value.bool okb) from rfl)
      have bl := HT.out.nx.okk.lt
      have n0 := (HT.out.nx.cnt.cell 0).trans (show _ = some (Value.int .i64 1) from rfl)
      have nl0 := HT.out.nx.cnt.lt
      have d0 := (HT.out.nx.fld.cell 0).trans (show _ = some (Value.slice AF fs.length (c9 - 2)) from rfl)
      have dl := HT.out.nx.fld.lt
      generalize hnb0 : numB w0 = nb at *
      clear hnb0
      cases okb
      case false =>
        have HLN := Lib.hid (HNO.out (by first | (rw [HF.out]; done) | (rw [HF.out]; simp [*])))
        have lt := (HT).out.res.lt
        have f0 := (HT).out.res.free 0
        have f1 := (HT).out.res.free 1
        have f2 := (HT).out.res.free 2
        have f3 := (HT).out.res.free 3
        have f4 := (HT).out.res.free 4
        have r0 := ((HT).out.res.cell 0).trans (show _ = some (Value.int .i64 0) from rfl)
        have r1 := ((HT).out.res.cell 1).trans (show _ = some (Value.int .i64 0) from rfl)
        have r2 := ((HT).out.res.cell 2).trans (show _ = some (Value.int .i64 0) from rfl)
        have r3 := ((HT).out.res.cell 3).trans (show _ = some (Value.int .u64 0) from rfl)
        have r4 := ((HT).out.res.cell 4).trans (show _ = some (Value.int .u64 0) from rfl)
        have HBR := Lib.hid (below_res5 (HT).out.bel N0 (.int .i64 0) (.int .i64 0) (.int .i64 0) (.int .u64 0) (.int .u64 0) (Nat.le_of_eq HN0.out))
        have HLR := Lib.hid ((((((HT).out.res.put 0 (.int .i64 0)).put 1 (.int .i64 0)).put 2 (.int .i64 0)).put 3 (.int .u64 0)).put 4 (.int .u64 0))
        have Q0 := Lib.hid ((HLR.out.cell 0).trans (show _ = some (Value.int .i64 (ev0).th) from rfl))
        have Q1 := Lib.hid ((HLR.out.cell 1).trans (show _ = some (Value.int .i64 (ev0).kd) from rfl))
        have Q2 := Lib.hid ((HLR.out.cell 2).trans (show _ = some (Value.int .i64 (ev0).rg) from rfl))
        have Q3 := Lib.hid ((HLR.out.cell 3).trans (show _ = some (Value.int .u64 ((ev0).tk : Int)) from rfl))
        have Q4 := Lib.hid ((HLR.out.cell 4).trans (show _ = some (Value.int .u64 ((ev0).vl : Int)) from rfl))
        clear HF HNO HYES
        go_wp2
        refine bodyPost_ret (v := .tuple #[.agg (evC ev0), .bool false]) (by simp [results, Tryd.results35, go_sem, Q0.out, Q1.out, Q2.out, Q3.out, Q4.out]) rfl ?_
        exact ⟨_, _, rfl, HLN.out, HBR.out⟩
      cases nb
      case false =>
        have HLN := Lib.hid (HNO.out (by first | (rw [HF.out]; done) | (rw [HF.out]; simp [*])))
        have lt := (HT).out.res.lt
        have f0 := (HT).out.res.free 0
        have f1 := (HT).out.res.free 1
        have f2 := (HT).out.res.free 2
        have f3 := (HT).out.res.free 3
        have f4 := (HT).out.res.free 4
        have r0 := ((HT).out.res.cell 0).trans (show _ = some (Value.int .i64 0) from rfl)
        have r1 := ((HT).out.res.cell 1).trans (show _ = some (Value.int .i64 0) from rfl)
        have r2 := ((HT).out.res.cell 2).trans (show _ = some (Value.int .i64 0) from rfl)
        have r3 := ((HT).out.res.cell 3).trans (show _ = some (Value.int .u64 0) from rfl)
        have r4 := ((HT).out.res.cell 4).trans (show _ = some (Value.int .u64 0) from rfl)
        have HBR := Lib.hid (below_res5 (HT).out.bel N0 (.int .i64 0) (.int .i64 0) (.int .i64 0) (.int .u64 0) (.int .u64 0) (Nat.le_of_eq HN0.out))
        have HLR := Lib.hid ((((((HT).out.res.put 0 (.int .i64 0)).put 1 (.int .i64 0)).put 2 (.int .i64 0)).put 3 (.int .u64 0)).put 4 (.int .u64 0))
        have Q0 := Lib.hid ((HLR.out.cell 0).trans (show _ = some (Value.int .i64 (ev0).th) from rfl))
        have Q1 := Lib.hid ((HLR.out.cell 1).trans (show _ = some (Value.int .i64 (ev0).kd) from rfl))
        have Q2 := Lib.hid ((HLR.out.cell 2).trans (show _ = some (Value.int .i64 (ev0).rg) from rfl))
        have Q3 := Lib.hid ((HLR.out.cell 3).trans (show _ = some (Value.int .u64 ((ev0).tk : Int)) from rfl))
        have Q4 := Lib.hid ((HLR.out.cell 4).trans (show _ = some (Value.int .u64 ((ev0).vl : Int)) from rfl))
        clear HF HNO HYES
        go_wp2
        refine bodyPost_ret (v := .tuple #[.agg (evC ev0), .bool false]) (by simp [results, Tryd.results35, go_sem, Q0.out, Q1.out, Q2.out, Q3.out, Q4.out]) rfl ?_
        exact ⟨_, _, rfl, HLN.out, HBR.out⟩
      by_cases hcn : 1 = fs.length
      case neg =>
        have e3 : ((1 : Int) == (fs.length : Int)) = false := by rw [beq_eq_false_iff_ne]; omega
        have e4 : ((1 : Int) != (fs.length : Int)) = true := by rw [bne_iff_ne]; omega
        have e5 : (1 == fs.length) = false := by rw [beq_eq_false_iff_ne]; omega
        have e6 : (fs.length == 1) = false := by rw [beq_eq_false_iff_ne]; omega
        clear hcn
        have HLN := Lib.hid (HNO.out (by first | (rw [HF.out]; done) | (rw [HF.out]; simp [*])))
        have lt := (HT).out.res.lt
        have f0 := (HT).out.res.free 0
        have f1 := (HT).out.res.free 1
        have f2 := (HT).out.res.free 2
        have f3 := (HT).out.res.free 3
        have f4 := (HT).out.res.free 4
        have r0 := ((HT).out.res.cell 0).trans (show _ = some (Value.int .i64 0) from rfl)
        have r1 := ((HT).out.res.cell 1).trans (show _ = some (Value.int .i64 0) from rfl)
        have r2 := ((HT).out.res.cell 2).trans (show _ = some (Value.int .i64 0) from rfl)
        have r3 := ((HT).out.res.cell 3).trans (show _ = some (Value.int .u64 0) from rfl)
        have r4 := ((HT).out.res.cell 4).trans (show _ = some (Value.int .u64 0) from rfl)
        have HBR := Lib.hid (below_res5 (HT).out.bel N0 (.int .i64 0) (.int .i64 0) (.int .i64 0) (.int .u64 0) (.int .u64 0) (Nat.le_of_eq HN0.out))
        have HLR := Lib.hid ((((((HT).out.res.put 0 (.int .i64 0)).put 1 (.int .i64 0)).put 2 (.int .i64 0)).put 3 (.int .u64 0)).put 4 (.int .u64 0))
        have Q0 := Lib.hid ((HLR.out.cell 0).trans (show _ = some (Value.int .i64 (ev0).th) from rfl))
        have Q1 := Lib.hid ((HLR.out.cell 1).trans (show _ = some (Value.int .i64 (ev0).kd) from rfl))
        have Q2 := Lib.hid ((HLR.out.cell 2).trans (show _ = some (Value.int .i64 (ev0).rg) from rfl))
        have Q3 := Lib.hid ((HLR.out.cell 3).trans (show _ = some (Value.int .u64 ((ev0).tk : Int)) from rfl))
        have Q4 := Lib.hid ((HLR.out.cell 4).trans (show _ = some (Value.int .u64 ((ev0).vl : Int)) from rfl))
        clear HF HNO HYES
        go_wp2
        refine bodyPost_ret (v := .tuple #[.agg (evC ev0), .bool false]) (by simp [results, Tryd.results35, go_sem, Q0.out, Q1.out, Q2.out, Q3.out, Q4.out]) rfl ?_
        exact ⟨_, _, rfl, HLN.out, HBR.out⟩
      have e3 : ((1 : Int) == (fs.length : Int)) = true := by rw [beq_iff_eq]; omega
      have e4 : ((1 : Int) != (fs.length : Int)) = false := by rw [bne_eq_false_iff_eq]; omega
      have e5 : (1 == fs.length) = true := by rw [beq_iff_eq]; omega
      have HF2 : Hid (rlF K w0 fs = rightE x9) := by
        show _ = _
        rw [HF.out, e5]; rfl
      clear hcn e5
      have HRI := Lib.hid (right15 x9)
      have c0 := (HT.out.evt.cell 0).trans (show _ = some (Value.int .i64 x9.th) from rfl)
      have c1 := (HT.out.evt.cell 1).trans (show _ = some (Value.int .i64 x9.kd) from rfl)
      have c2 := (HT.out.evt.cell 2).trans (show _ = some (Value.int .i64 x9.rg) from rfl)
      have c3 := (HT.out.evt.cell 3).trans (show _ = some (Value.int .u64 (x9.tk : Int)) from rfl)
      have c4 := (HT.out.evt.cell 4).trans (show _ = some (Value.int .u64 (x9.vl : Int)) from rfl)
      have cl := HT.out.evt.lt
      clear HF
      have HF := HF2
      clear HF2
      go_wp2_with fail
      refine (HRI.out _).mono ?_
      rintro e wz ⟨rfl, hbz⟩
      have HU := Lib.hid (HT.out.below hbz)
      clear HRI c0 c1 c2 c3 c4 cl b0 bl n0 nl0 d0 dl HT hbz
      generalize hrr : rightE x9 = rr at *
      clear hrr
      cases rr
      case false =>
        have HLN := Lib.hid (HNO.out (by first | (rw [HF.out]; done) | (rw [HF.out]; simp [*])))
        have lt := (HU).out.res.lt
        have f0 := (HU).out.res.free 0
        have f1 := (HU).out.res.free 1
        have f2 := (HU).out.res.free 2
        have f3 := (HU).out.res.free 3
        have f4 := (HU).out.res.free 4
        have r0 := ((HU).out.res.cell 0).trans (show _ = some (Value.int .i64 0) from rfl)
        have r1 := ((HU).out.res.cell 1).trans (show _ = some (Value.int .i64 0) from rfl)
        have r2 := ((HU).out.res.cell 2).trans (show _ = some (Value.int .i64 0) from rfl)
        have r3 := ((HU).out.res.cell 3).trans (show _ = some (Value.int .u64 0) from rfl)
        have r4 := ((HU).out.res.cell 4).trans (show _ = some (Value.int .u64 0) from rfl)
        have HBR := Lib.hid (below_res5 (HU).out.bel N0 (.int .i64 0) (.int .i64 0) (.int .i64 0) (.int .u64 0) (.int .u64 0) (Nat.le_of_eq HN0.out))
        have HLR := Lib.hid ((((((HU).out.res.put 0 (.int .i64 0)).put 1 (.int .i64 0)).put 2 (.int .i64 0)).put 3 (.int .u64 0)).put 4 (.int .u64 0))
        have Q0 := Lib.hid ((HLR.out.cell 0).trans (show _ = some (Value.int .i64 (ev0).th) from rfl))
        have Q1 := Lib.hid ((HLR.out.cell 1).trans (show _ = some (Value.int .i64 (ev0).kd) from rfl))
        have Q2 := Lib.hid ((HLR.out.cell 2).trans (show _ = some (Value.int .i64 (ev0).rg) from rfl))
        have Q3 := Lib.hid ((HLR.out.cell 3).trans (show _ = some (Value.int .u64 ((ev0).tk : Int)) from rfl))
        have Q4 := Lib.hid ((HLR.out.cell 4).trans (show _ = some (Value.int .u64 ((ev0).vl : Int)) from rfl))
        clear HF HNO HYES
        go_wp2
        refine bodyPost_ret (v := .tuple #[.agg (evC ev0), .bool false]) (by simp [results, Tryd.results35, go_sem, Q0.out, Q1.out, Q2.out, Q3.out, Q4.out]) rfl ?_
        exact ⟨_, _, rfl, HLN.out, HBR.out⟩
      have HLN := Lib.hid (HYES.out HF.out)
      have c0 := (HU.out.evt.cell 0).trans (show _ = some (Value.int .i64 x9.th) from rfl)
      have c1 := (HU.out.evt.cell 1).trans (show _ = some (Value.int .i64 x9.kd) from rfl)
      have c2 := (HU.out.evt.cell 2).trans (show _ = some (Value.int .i64 x9.rg) from rfl)
      have c3 := (HU.out.evt.cell 3).trans (show _ = some (Value.int .u64 (x9.tk : Int)) from rfl)
      have c4 := (HU.out.evt.cell 4).trans (show _ = some (Value.int .u64 (x9.vl : Int)) from rfl)
      have cl := HU.out.evt.lt
      have lt := (HU).out.res.lt
      have f0 := (HU).out.res.free 0
      have f1 := (HU).out.res.free 1
      have f2 := (HU).out.res.free 2
      have f3 := (HU).out.res.free 3
      have f4 := (HU).out.res.free 4
      have r0 := ((HU).out.res.cell 0).trans (show _ = some (Value.int .i64 0) from rfl)
      have r1 := ((HU).out.res.cell 1).trans (show _ = some (Value.int .i64 0) from rfl)
      have r2 := ((HU).out.res.cell 2).trans (show _ = some (Value.int .i64 0) from rfl)
      have r3 := ((HU).out.res.cell 3).trans (show _ = some (Value.int .u64 0) from rfl)
      have r4 := ((HU).out.res.cell 4).trans (show _ = some (Value.int .u64 0) from rfl)
      have HBR := Lib.hid (below_res5 HU.out.bel N0 (.int .i64 x9.th) (.int .i64 x9.kd) (.int .i64 x9.rg) (.int .u64 (x9.tk : Int)) (.int .u64 (x9.vl : Int)) (Nat.le_of_eq HN0.out))
      have HLR := Lib.hid (((((HU.out.res.put 0 (.int .i64 x9.th)).put 1 (.int .i64 x9.kd)).put 2 (.int .i64 x9.rg)).put 3 (.int .u64 (x9.tk : Int))).put 4 (.int .u64 (x9.vl : Int)))
      have Q0 := Lib.hid ((HLR.out.cell 0).trans (show _ = some (Value.int .i64 (x9).th) from rfl))
      have Q1 := Lib.hid ((HLR.out.cell 1).trans (show _ = some (Value.int .i64 (x9).kd) from rfl))
      have Q2 := Lib.hid ((HLR.out.cell 2).trans (show _ = some (Value.int .i64 (x9).rg) from rfl))
      have Q3 := Lib.hid ((HLR.out.cell 3).trans (show _ = some (Value.int .u64 ((x9).tk : Int)) from rfl))
      have Q4 := Lib.hid ((HLR.out.cell 4).trans (show _ = some (Value.int .u64 ((x9).vl : Int)) from rfl))
      clear HF HNO HYES
      go_wp2
      refine bodyPost_ret (v := .tuple #[.agg (evC x9), .bool true]) (by simp [results, Tryd.results35, go_sem, Q0.out, Q1.out, Q2.out, Q3.out, Q4.out]) rfl ?_
      exact ⟨_, _, rfl, HLN.out, HBR.out⟩
    · go_wp2_with fail
      refine (HTK.out _).mono ?_
      rintro e w' ⟨rfl, rfl⟩
      go_wp2_with fail
      refine (HVL.out _).mono ?_
      rintro e w' ⟨rfl, rfl⟩
      go_wp2_with fail
      refine (HNX.out 0 _ _ _ (by omega) HS.out).mono ?_
      rintro e w5 ⟨rfl, hn5, hk5⟩
      have HS5 := Lib.hid (HS.out.next hn5 hk5)
      clear HS hn5 hk5
      have f9 := (HS5).out.evt.free 4
      have l9 := (HS5).out.evt.lt
      have p9 := ((HS5).out.evt.cell 4).trans (show _ = some ((Value.int .u64 0)) from rfl)
      go_upto_region 15 with (fail)
      have HS8 := Lib.hid (HS5.out.put 4 (.int .u64 ((nxV fs 0 : Nat) : Int)) (x' := ⟨smI (numV w0), (K : Int), 0, 0, nxV fs 0⟩) rfl)
      clear f9 l9 p9 HS5
      generalize w5.setCell ⟨ge, 4, none⟩ (.int .u64 ((nxV fs 0 : Nat) : Int)) = w6 at *
      simp only [if_true, if_false, Bool.false_eq_true] at HRX HRC
      have HF0 : rlF K w0 fs = ((nxB fs 0 (K != 0)) && (numB w0 && ((1 == fs.length) && rightE (rlX K w0 fs)))) := by
        rw [HFI.out, HRO.out, HRC.out]; rfl
      have hxe := HRX.out
      rw [hxe] at HF0 HYES
      obtain ⟨x9, hx9⟩ : ∃ x, rlX K w0 fs = x := ⟨_, rfl⟩
      rw [hxe] at hx9
      rw [hx9] at HF0 HYES
      have HT0 := (HS8).out
      rw [hx9] at HT0
      have HX9 := Lib.hid hx9
      clear hxe hx9
      obtain ⟨okb, hok⟩ : ∃ b, (nxB fs 0 (K != 0)) = b := ⟨_, rfl⟩
      rw [hok] at HT0 HF0
      clear hok
      have HF := Lib.hid HF0
      have HT := Lib.hid HT0
      clear HF0 HT0 HFI HRX HRC HRO HNX HRG HTK HVL HS8
      have b0 := (HT.out.nx.okk.cell 0).trans (show _ = some (Value.bool okb) from rfl)
      have bl := HT.out.nx.okk.lt
      have n0 := (HT.out.nx.cnt.cell 0).trans (show _ = some (Value.int .i64 1) from rfl)
      have nl0 := HT.out.nx.cnt.lt
      have d0 := (HT.out.nx.fld.cell 0).trans (show _ = some (Value.slice AF fs.length (c9 - 2)) from rfl)
      have dl := HT.out.nx.fld.lt
      generalize hnb0 : numB w0 = nb at *
      clear hnb0
      cases okb
      case false =>
        have HLN := Lib.hid (HNO.out (by first | (rw [HF.out]; done) | (rw [HF.out]; simp [*])))
        have lt := (HT).out.res.lt
        have f0 := (HT).out.res.free 0
        have f1 := (HT).out.res.free 1
        have f2 := (HT).out.res.free 2
        have f3 := (HT).out.res.free 3
        have f4 := (HT).out.res.free 4
        have r0 := ((HT).out.res.cell 0).trans (show _ = some (Value.int .i64 0) from rfl)
        have r1 := ((HT).out.res.cell 1).trans (show _ = some (Value.int .i64 0) from rfl)
        have r2 := ((HT).out.res.cell 2).trans (show _ = some (Value.int .i64 0) from rfl)
        have r3 := ((HT).out.res.cell 3).trans (show _ = some (Value.int .u64 0) from rfl)
        have r4 := ((HT).out.res.cell 4).trans (show _ = some (Value.int .u64 0) from rfl)
        have HBR := Lib.hid (below_res5 (HT).out.bel N0 (.int .i64 0) (.int .i64 0) (.int .i64 0) (.int .u64 0) (.int .u64 0) (Nat.le_of_eq HN0.out))
        have HLR := Lib.hid ((((((HT).out.res.put 0 (.int .i64 0)).put 1 (.int .i64 0)).put 2 (.int .i64 0)).put 3 (.int .u64 0)).put 4 (.int .u64 0))
        have Q0 := Lib.hid ((HLR.out.cell 0).trans (show _ = some (Value.int .i64 (ev0).th) from rfl))
        have Q1 := Lib.hid ((HLR.out.cell 1).trans (show _ = some (Value.int .i64 (ev0).kd) from rfl))
        have Q2 := Lib.hid ((HLR.out.cell 2).trans (show _ = some (Value.int .i64 (ev0).rg) from rfl))
        have Q3 := Lib.hid ((HLR.out.cell 3).trans (show _ = some (Value.int .u64 ((ev0).tk : Int)) from rfl))
        have Q4 := Lib.hid ((HLR.out.cell 4).trans (show _ = some (Value.int .u64 ((ev0).vl : Int)) from rfl))
        clear HF HNO HYES
        go_wp2
        refine bodyPost_ret (v := .tuple #[.agg (evC ev0), .bool false]) (by simp [results, Tryd.results35, go_sem, Q0.out, Q1.out, Q2.out, Q3.out, Q4.out]) rfl ?_
        exact ⟨_, _, rfl, HLN.out, HBR.out⟩
      cases nb
      case false =>
        have HLN := Lib.hid (HNO.out (by first | (rw [HF.out]; done) | (rw [HF.out]; simp [*])))
        have lt := (HT).out.res.lt
        have f0 := (HT).out.res.free 0
        have f1 := (HT).out.res.free 1
        have f2 := (HT).out.res.free 2
        have f3 := (HT).out.res.free 3
        have f4 := (HT).out.res.free 4
        have r0 := ((HT).out.res.cell 0).trans (show _ = some (Value.int .i64 0) from rfl)
        have r1 := ((HT).out.res.cell 1).trans (show _ = some (Value.int .i64 0) from rfl)
        have r2 := ((HT).out.res.cell 2).trans (show _ = some (Value.int .i64 0) from rfl)
        have r3 := ((HT).out.res.cell 3).trans (show _ = some (Value.int .u64 0) from rfl)
        have r4 := ((HT).out.res.cell 4).trans (show _ = some (Value.int .u64 0) from rfl)
        have HBR := Lib.hid (below_res5 (HT).out.bel N0 (.int .i64 0) (.int .i64 0) (.int .i64 0) (.int .u64 0) (.int .u64 0) (Nat.le_of_eq HN0.out))
        have HLR := Lib.hid ((((((HT).out.res.put 0 (.int .i64 0)).put 1 (.int .i64 0)).put 2 (.int .i64 0)).put 3 (.int .u64 0)).put 4 (.int .u64 0))
        have Q0 := Lib.hid ((HLR.out.cell 0).trans (show _ = some (Value.int .i64 (ev0).th) from rfl))
        have Q1 := Lib.hid ((HLR.out.cell 1).trans (show _ = some (Value.int .i64 (ev0).kd) from rfl))
        have Q2 := Lib.hid ((HLR.out.cell 2).trans (show _ = some (Value.int .i64 (ev0).rg) from rfl))
        have Q3 := Lib.hid ((HLR.out.cell 3).trans (show _ = some (Value.int .u64 ((ev0).tk : Int)) from rfl))
        have Q4 := Lib.hid ((HLR.out.cell 4).trans (show _ = some (Value.int .u64 ((ev0).vl : Int)) from rfl))
        clear HF HNO HYES
        go_wp2
        refine bodyPost_ret (v := .tuple #[.agg (evC ev0), .bool false]) (by simp [results, Tryd.results35, go_sem, Q0.out, Q1.out, Q2.out, Q3.out, Q4.out]) rfl ?_
        exact ⟨_, _, rfl, HLN.out, HBR.out⟩
      by_cases hcn : 1 = fs.length
      case neg =>
        have e3 : ((1 : Int) == (fs.length : Int)) = false := by rw [beq_eq_false_iff_ne]; omega
        have e4 : ((1 : Int) != (fs.length : Int)) = true := by rw [bne_iff_ne]; omega
        have e5 : (1 == fs.length) = false := by rw [beq_eq_false_iff_ne]; omega
        have e6 : (fs.length == 1) = false := by rw [beq_eq_false_iff_ne]; omega
        clear hcn
        have HLN := Lib.hid (HNO.out (by first | (rw [HF.out]; done) | (rw [HF.out]; simp [*])))
        have lt := (HT).out.res.lt
        have f0 := (HT).out.res.free 0
        have f1 := (HT).out.res.free 1
        have f2 := (HT).out.res.free 2
        have f3 := (HT).out.res.free 3
        have f4 := (HT).out.res.free 4
        have r0 := ((HT).out.res.cell 0).trans (show _ = some (Value.int .i64 0) from rfl)
        have r1 := ((HT).out.res.cell 1).trans (show _ = some (Value.int .i64 0) from rfl)
        have r2 := ((HT).out.res.cell 2).trans (show _ = some (Value.int .i64 0) from rfl)
        have r3 := ((HT).out.res.cell 3).trans (show _ = some (Value.int .u64 0) from rfl)
        have r4 := ((HT).out.res.cell 4).trans (show _ = some (Value.int .u64 0) from rfl)
        have HBR := Lib.hid (below_res5 (HT).out.bel N0 (.int .i64 0) (.int .i64 0) (.int .i64 0) (.int .u64 0) (.int .u64 0) (Nat.le_of_eq HN0.out))
        have HLR := Lib.hid ((((((HT).out.res.put 0 (.int .i64 0)).put 1 (.int .i64 0)).put 2 (.int .i64 0)).put 3 (.int .u64 0)).put 4 (.int .u64 0))
        have Q0 := Lib.hid ((HLR.out.cell 0).trans (show _ = some (Value.int .i64 (ev0).th) from rfl))
        have Q1 := Lib.hid ((HLR.out.cell 1).trans (show _ = some (Value.int .i64 (ev0).kd) from rfl))
        have Q2 := Lib.hid ((HLR.out.cell 2).trans (show _ = some (Value.int .i64 (ev0).rg) from rfl))
        have Q3 := Lib.hid ((HLR.out.cell 3).trans (show _ = some (Value.int .u64 ((ev0).tk : Int)) from rfl))
        have Q4 := Lib.hid ((HLR.out.cell 4).trans (show _ = some (Value.int .u64 ((ev0).vl : Int)) from rfl))
        clear HF HNO HYES
        go_wp2
        refine bodyPost_ret (v := .tuple #[.agg (evC ev0), .bool false]) (by simp [results, Tryd.results35, go_sem, Q0.out, Q1.out, Q2.out, Q3.out, Q4.out]) rfl ?_
        exact ⟨_, _, rfl, HLN.out, HBR.out⟩
      have e3 : ((1 : Int) == (fs.length : Int)) = true := by rw [beq_iff_eq]; omega
      have e4 : ((1 : Int) != (fs.length : Int)) = false := by rw [bne_eq_false_iff_eq]; omega
      have e5 : (1 == fs.length) = true := by rw [beq_iff_eq]; omega
      have HF2 : Hid (rlF K w0 fs = rightE x9) := by
        show _ = _
        rw [HF.out, e5]; rfl
      clear hcn e5
      have HRI := Lib.hid (right15 x9)
      have c0 := (HT.out.evt.cell 0).trans (show _ = some (Value.int .i64 x9.th) from rfl)
      have c1 := (HT.out.evt.cell 1).trans (show _ = some (Value.int .i64 x9.kd) from rfl)
      have c2 := (HT.out.evt.cell 2).trans (show _ = some (Value.int .i64 x9.rg) from rfl)
      have c3 := (HT.out.evt.cell 3).trans (show _ = some (Value.int .u64 (x9.tk : Int)) from rfl)
      have c4 := (HT.out.evt.cell 4).trans (show _ = some (Value.int .u64 (x9.vl : Int)) from rfl)
      have cl := HT.out.evt.lt
      clear HF
      have HF := HF2
      clear HF2
      go_wp2_with fail
      refine (HRI.out _).mono ?_
      rintro e wz ⟨rfl, hbz⟩
      have HU := Lib.hid (HT.out.below hbz)
      clear HRI c0 c1 c2 c3 c4 cl b0 bl n0 nl0 d0 dl HT hbz
      generalize hrr : rightE x9 = rr at *
      clear hrr
      cases rr
      case false =>
        have HLN := Lib.hid (HNO.out (by first | (rw [HF.out]; done) | (rw [HF.out]; simp [*])))
        have lt := (HU).out.res.lt
        have f0 := (HU).out.res.free 0
        have f1 := (HU).out.res.free 1
        have f2 := (HU).out.res.free 2
        have f3 := (HU).out.res.free 3
        have f4 := (HU).out.res.free 4
        have r0 := ((HU).out.res.cell 0).trans (show _ = some (Value.int .i64 0) from rfl)
        have r1 := ((HU).out.res.cell 1).trans (show _ = some (Value.int .i64 0) from rfl)
        have r2 := ((HU).out.res.cell 2).trans (show _ = some (Value.int .i64 0) from rfl)
        have r3 := ((HU).out.res.cell 3).trans (show _ = some (Value.int .u64 0) from rfl)
        have r4 := ((HU).out.res.cell 4).trans (show _ = some (Value.int .u64 0) from rfl)
        have HBR := Lib.hid (below_res5 (HU).out.bel N0 (.int .i64 0) (.int .i64 0) (.int .i64 0) (.int .u64 0) (.int .u64 0) (Nat.le_of_eq HN0.out))
        have HLR := Lib.hid ((((((HU).out.res.put 0 (.int .i64 0)).put 1 (.int .i64 0)).put 2 (.int .i64 0)).put 3 (.int .u64 0)).put 4 (.int .u64 0))
        have Q0 := Lib.hid ((HLR.out.cell 0).trans (show _ = some (Value.int .i64 (ev0).th) from rfl))
        have Q1 := Lib.hid ((HLR.out.cell 1).trans (show _ = some (Value.int .i64 (ev0).kd) from rfl))
        have Q2 := Lib.hid ((HLR.out.cell 2).trans (show _ = some (Value.int .i64 (ev0).rg) from rfl))
        have Q3 := Lib.hid ((HLR.out.cell 3).trans (show _ = some (Value.int .u64 ((ev0).tk : Int)) from rfl))
        have Q4 := Lib.hid ((HLR.out.cell 4).trans (show _ = some (Value.int .u64 ((ev0).vl : Int)) from rfl))
        clear HF HNO HYES
        go_wp2
        refine bodyPost_ret (v := .tuple #[.agg (evC ev0), .bool false]) (by simp [results, Tryd.results35, go_sem, Q0.out, Q1.out, Q2.out, Q3.out, Q4.out]) rfl ?_
        exact ⟨_, _, rfl, HLN.out, HBR.out⟩
      have HLN := Lib.hid (HYES.out HF.out)
      have c0 := (HU.out.evt.cell 0).trans (show _ = some (Value.int .i64 x9.th) from rfl)
      have c1 := (HU.out.evt.cell 1).trans (show _ = some (Value.int .i64 x9.kd) from rfl)
      have c2 := (HU.out.evt.cell 2).trans (show _ = some (Value.int .i64 x9.rg) from rfl)
      have c3 := (HU.out.evt.cell 3).trans (show _ = some (Value.int .u64 (x9.tk : Int)) from rfl)
      have c4 := (HU.out.evt.cell 4).trans (show _ = some (Value.int .u64 (x9.vl : Int)) from rfl)
      have cl := HU.out.evt.lt
      have lt := (HU).out.res.lt
      have f0 := (HU).out.res.free 0
      have f1 := (HU).out.res.free 1
      have f2 := (HU).out.res.free 2
      have f3 := (HU).out.res.free 3
      have f4 := (HU).out.res.free 4
      have r0 := ((HU).out.res.cell 0).trans (show _ = some (Value.int .i64 0) from rfl)
      have r1 := ((HU).out.res.cell 1).trans (show _ = some (Value.int .i64 0) from rfl)
      have r2 := ((HU).out.res.cell 2).trans (show _ = some (Value.int .i64 0) from rfl)
      have r3 := ((HU).out.res.cell 3).trans (show _ = some (Value.int .u64 0) from rfl)
      have r4 := ((HU).out.res.cell 4).trans (show _ = some (Value.int .u64 0) from rfl)
      have HBR := Lib.hid (below_res5 HU.out.bel N0 (.int .i64 x9.th) (.int .i64 x9.kd) (.int .i64 x9.rg) (.int .u64 (x9.tk : Int)) (.int .u64 (x9.vl : Int)) (Nat.le_of_eq HN0.out))
      have HLR := Lib.hid (((((HU.out.res.put 0 (.int .i64 x9.th)).put 1 (.int .i64 x9.kd)).put 2 (.int .i64 x9.rg)).put 3 (.int .u64 (x9.tk : Int))).put 4 (.int .u64 (x9.vl : Int)))
      have Q0 := Lib.hid ((HLR.out.cell 0).trans (show _ = some (Value.int .i64 (x9).th) from rfl))
      have Q1 := Lib.hid ((HLR.out.cell 1).trans (show _ = some (Value.int .i64 (x9).kd) from rfl))
      have Q2 := Lib.hid ((HLR.out.cell 2).trans (show _ = some (Value.int .i64 (x9).rg) from rfl))
      have Q3 := Lib.hid ((HLR.out.cell 3).trans (show _ = some (Value.int .u64 ((x9).tk : Int)) from rfl))
      have Q4 := Lib.hid ((HLR.out.cell 4).trans (show _ = some (Value.int .u64 ((x9).vl : Int)) from rfl))
      clear HF HNO HYES
      go_wp2
      refine bodyPost_ret (v := .tuple #[.agg (evC x9), .bool true]) (by simp [results, Tryd.results35, go_sem, Q0.out, Q1.out, Q2.out, Q3.out, Q4.out]) rfl ?_
      exact ⟨_, _, rfl, HLN.out, HBR.out⟩
    · go_wp2_with fail
      refine (HTK.out _).mono ?_
      rintro e w' ⟨rfl, rfl⟩
      go_wp2_with fail
      refine (HVL.out _).mono ?_
      rintro e w' ⟨rfl, rfl⟩
      simp only [if_true, if_false, Bool.false_eq_true] at HRX HRC
      have HF0 : rlF K w0 fs = ((K != 0) && (numB w0 && ((0 == fs.length) && rightE (rlX K w0 fs)))) := by
        rw [HFI.out, HRO.out, HRC.out]; rfl
      have hxe := HRX.out
      rw [hxe] at HF0 HYES
      obtain ⟨x9, hx9⟩ : ∃ x, rlX K w0 fs = x := ⟨_, rfl⟩
      rw [hxe] at hx9
      rw [hx9] at HF0 HYES
      have HT0 := (HS).out
      rw [hx9] at HT0
      have HX9 := Lib.hid hx9
      clear hxe hx9
      obtain ⟨okb, hok⟩ : ∃ b, (K != 0) = b := ⟨_, rfl⟩
      rw [hok] at HT0 HF0
      clear hok
      have HF := Lib.hid HF0
      have HT := Lib.hid HT0
      clear HF0 HT0 HFI HRX HRC HRO HNX HRG HTK HVL HS
      have b0 := (HT.out.nx.okk.cell 0).trans (show _ = some (Value.bool okb) from rfl)
      have bl := HT.out.nx.okk.lt
      have n0 := (HT.out.nx.cnt.cell 0).trans (show _ = some (Value.int .i64 0) from rfl)
      have nl0 := HT.out.nx.cnt.lt
      have d0 := (HT.out.nx.fld.cell 0).trans (show _ = some (Value.slice AF fs.length (c9 - 2)) from rfl)
      have dl := HT.out.nx.fld.lt
      generalize hnb0 : numB w0 = nb at *
      clear hnb0
      cases okb
      case false =>
        have HLN := Lib.hid (HNO.out (by first | (rw [HF.out]; done) | (rw [HF.out]; simp [*])))
        have lt := (HT).out.res.lt
        have f0 := (HT).out.res.free 0
        have f1 := (HT).out.res.free 1
        have f2 := (HT).out.res.free 2
        have f3 := (HT).out.res.free 3
        have f4 := (HT).out.res.free 4
        have r0 := ((HT).out.res.cell 0).trans (show _ = some (Value.int .i64 0) from rfl)
        have r1 := ((HT).out.res.cell 1).trans (show _ = some (Value.int .i64 0) from rfl)
        have r2 := ((HT).out.res.cell 2).trans (show _ = some (Value.int .i64 0) from rfl)
        have r3 := ((HT).out.res.cell 3).trans (show _ = some (Value.int .u64 0) from rfl)
        have r4 := ((HT).out.res.cell 4).trans (show _ = some (Value.int .u64 0) from rfl)
        have HBR := Lib.hid (below_res5 (HT).out.bel N0 (.int .i64 0) (.int .i64 0) (.int .i64 0) (.int .u64 0) (.int .u64 0) (Nat.le_of_eq HN0.out))
        have HLR := Lib.hid ((((((HT).out.res.put 0 (.int .i64 0)).put 1 (.int .i64 0)).put 2 (.int .i64 0)).put 3 (.int .u64 0)).put 4 (.int .u64 0))
        have Q0 := Lib.hid ((HLR.out.cell 0).trans (show _ = some (Value.int .i64 (ev0).th) from rfl))
        have Q1 := Lib.hid ((HLR.out.cell 1).trans (show _ = some (Value.int .i64 (ev0).kd) from rfl))
        have Q2 := Lib.hid ((HLR.out.cell 2).trans (show _ = some (Value.int .i64 (ev0).rg) from rfl))
        have Q3 := Lib.hid ((HLR.out.cell 3).trans (show _ = some (Value.int .u64 ((ev0).tk : Int)) from rfl))
        have Q4 := Lib.hid ((HLR.out.cell 4).trans (show _ = some (Value.int .u64 ((ev0).vl : Int)) from rfl))
        clear HF HNO HYES
        go_wp2
        refine bodyPost_ret (v := .tuple #[.agg (evC ev0), .bool false]) (by simp [results, Tryd.results35, go_sem, Q0.out, Q1.out, Q2.out, Q3.out, Q4.out]) rfl ?_
        exact ⟨_, _, rfl, HLN.out, HBR.out⟩
      cases nb
      case false =>
        have HLN := Lib.hid (HNO.out (by first | (rw [HF.out]; done) | (rw [HF.out]; simp [*])))
        have lt := (HT).out.res.lt
        have f0 := (HT).out.res.free 0
        have f1 := (HT).out.res.free 1
        have f2 := (HT).out.res.free 2
        have f3 := (HT).out.res.free 3
        have f4 := (HT).out.res.free 4
        have r0 := ((HT).out.res.cell 0).trans (show _ = some (Value.int .i64 0) from rfl)
        have r1 := ((HT).out.res.cell 1).trans (show _ = some (Value.int .i64 0) from rfl)
        have r2 := ((HT).out.res.cell 2).trans (show _ = some (Value.int .i64 0) from rfl)
        have r3 := ((HT).out.res.cell 3).trans (show _ = some (Value.int .u64 0) from rfl)
        have r4 := ((HT).out.res.cell 4).trans (show _ = some (Value.int .u64 0) from rfl)
        have HBR := Lib.hid (below_res5 (HT).out.bel N0 (.int .i64 0) (.int .i64 0) (.int .i64 0) (.int .u64 0) (.int .u64 0) (Nat.le_of_eq HN0.out))
        have HLR := Lib.hid ((((((HT).out.res.put 0 (.int .i64 0)).put 1 (.int .i64 0)).put 2 (.int .i64 0)).put 3 (.int .u64 0)).put 4 (.int .u64 0))
        have Q0 := Lib.hid ((HLR.out.cell 0).trans (show _ = some (Value.int .i64 (ev0).th) from rfl))
        have Q1 := Lib.hid ((HLR.out.cell 1).trans (show _ = some (Value.int .i64 (ev0).kd) from rfl))
        have Q2 := Lib.hid ((HLR.out.cell 2).trans (show _ = some (Value.int .i64 (ev0).rg) from rfl))
        have Q3 := Lib.hid ((HLR.out.cell 3).trans (show _ = some (Value.int .u64 ((ev0).tk : Int)) from rfl))
        have Q4 := Lib.hid ((HLR.out.cell 4).trans (show _ = some (Value.int .u64 ((ev0).vl : Int)) from rfl))
        clear HF HNO HYES
        go_wp2
        refine bodyPost_ret (v := .tuple #[.agg (evC ev0), .bool false]) (by simp [results, Tryd.results35, go_sem, Q0.out, Q1.out, Q2.out, Q3.out, Q4.out]) rfl ?_
        exact ⟨_, _, rfl, HLN.out, HBR.out⟩
      by_cases hcn : 0 = fs.length
      case neg =>
        have e3 : ((0 : Int) == (fs.length : Int)) = false := by rw [beq_eq_false_iff_ne]; omega
        have e4 : ((0 : Int) != (fs.length : Int)) = true := by rw [bne_iff_ne]; omega
        have e5 : (0 == fs.length) = false := by rw [beq_eq_false_iff_ne]; omega
        have e6 : (fs.length == 0) = false := by rw [beq_eq_false_iff_ne]; omega
        clear hcn
        have HLN := Lib.hid (HNO.out (by first | (rw [HF.out]; done) | (rw [HF.out]; simp [*])))
        have lt := (HT).out.res.lt
        have f0 := (HT).out.res.free 0
        have f1 := (HT).out.res.free 1
        have f2 := (HT).out.res.free 2
        have f3 := (HT).out.res.free 3
        have f4 := (HT).out.res.free 4
        have r0 := ((HT).out.res.cell 0).trans (show _ = some (Value.int .i64 0) from rfl)
        have r1 := ((HT).out.res.cell 1).trans (show _ = some (Value.int .i64 0) from rfl)
        have r2 := ((HT).out.res.cell 2).trans (show _ = some (Value.int .i64 0) from rfl)
        have r3 := ((HT).out.res.cell 3).trans (show _ = some (Value.int .u64 0) from rfl)
        have r4 := ((HT).out.res.cell 4).trans (show _ = some (Value.int .u64 0) from rfl)
        have HBR := Lib.hid (below_res5 (HT).out.bel N0 (.int .i64 0) (.int .i64 0) (.int .i64 0) (.int .u64 0) (.int .u64 0) (Nat.le_of_eq HN0.out))
        have HLR := Lib.hid ((((((HT).out.res.put 0 (.int .i64 0)).put 1 (.int .i64 0)).put 2 (.int .i64 0)).put 3 (.int .u64 0)).put 4 (.int .u64 0))
        have Q0 := Lib.hid ((HLR.out.cell 0).trans (show _ = some (Value.int .i64 (ev0).th) from rfl))
        have Q1 := Lib.hid ((HLR.out.cell 1).trans (show _ = some (Value.int .i64 (ev0).kd) from rfl))
        have Q2 := Lib.hid ((HLR.out.cell 2).trans (show _ = some (Value.int .i64 (ev0).rg) from rfl))
        have Q3 := Lib.hid ((HLR.out.cell 3).trans (show _ = some (Value.int .u64 ((ev0).tk : Int)) from rfl))
        have Q4 := Lib.hid ((HLR.out.cell 4).trans (show _ = some (Value.int .u64 ((ev0).vl : Int)) from rfl))
        clear HF HNO HYES
        go_wp2
        refine bodyPost_ret (v := .tuple #[.agg (evC ev0), .bool false]) (by simp [results, Tryd.results35, go_sem, Q0.out, Q1.out, Q2.out, Q3.out, Q4.out]) rfl ?_
        exact ⟨_, _, rfl, HLN.out, HBR.out⟩
      have e3 : ((0 : Int) == (fs.length : Int)) = true := by rw [beq_iff_eq]; omega
      have e4 : ((0 : Int) != (fs.length : Int)) = false := by rw [bne_eq_false_iff_eq]; omega
      have e5 : (0 == fs.length) = true := by rw [beq_iff_eq]; omega
      have HF2 : Hid (rlF K w0 fs = rightE x9) := by
        show _ = _
        rw [HF.out, e5]; rfl
      clear hcn e5
      have HRI := Lib.hid (right15 x9)
      have c0 := (HT.out.evt.cell 0).trans (show _ = some (Value.int .i64 x9.th) from rfl)
      have c1 := (HT.out.evt.cell 1).trans (show _ = some (Value.int .i64 x9.kd) from rfl)
      have c2 := (HT.out.evt.cell 2).trans (show _ = some (Value.int .i64 x9.rg) from rfl)
      have c3 := (HT.out.evt.cell 3).trans (show _ = some (Value.int .u64 (x9.tk : Int)) from rfl)
      have c4 := (HT.out.evt.cell 4).trans (show _ = some (Value.int .u64 (x9.vl : Int)) from rfl)
      have cl := HT.out.evt.lt
      clear HF
      have HF := HF2
      clear HF2
      go_wp2_with fail
      refine (HRI.out _).mono ?_
      rintro e wz ⟨rfl, hbz⟩
      have HU := Lib.hid (HT.out.below hbz)
      clear HRI c0 c1 c2 c3 c4 cl b0 bl n0 nl0 d0 dl HT hbz
      generalize hrr : rightE x9 = rr at *
      clear hrr
      cases rr
      case false =>
        have HLN := Lib.hid (HNO.out (by first | (rw [HF.out]; done) | (rw [HF.out]; simp [*])))
        have lt := (HU).out.res.lt
        have f0 := (HU).out.res.free 0
        have f1 := (HU).out.res.free 1
        have f2 := (HU).out.res.free 2
        have f3 := (HU).out.res.free 3
        have f4 := (HU).out.res.free 4
        have r0 := ((HU).out.res.cell 0).trans (show _ = some (Value.int .i64 0) from rfl)
        have r1 := ((HU).out.res.cell 1).trans (show _ = some (Value.int .i64 0) from rfl)
        have r2 := ((HU).out.res.cell 2).trans (show _ = some (Value.int .i64 0) from rfl)
        have r3 := ((HU).out.res.cell 3).trans (show _ = some (Value.int .u64 0) from rfl)
        have r4 := ((HU).out.res.cell 4).trans (show _ = some (Value.int .u64 0) from rfl)
        have HBR := Lib.hid (below_res5 (HU).out.bel N0 (.int .i64 0) (.int .i64 0) (.int .i64 0) (.int .u64 0) (.int .u64 0) (Nat.le_of_eq HN0.out))
        have HLR := Lib.hid ((((((HU).out.res.put 0 (.int .i64 0)).put 1 (.int .i64 0)).put 2 (.int .i64 0)).put 3 (.int .u64 0)).put 4 (.int .u64 0))
        have Q0 := Lib.hid ((HLR.out.cell 0).trans (show _ = some (Value.int .i64 (ev0).th) from rfl))
        have Q1 := Lib.hid ((HLR.out.cell 1).trans (show _ = some (Value.int .i64 (ev0).kd) from rfl))
        have Q2 := Lib.hid ((HLR.out.cell 2).trans (show _ = some (Value.int .i64 (ev0).rg) from rfl))
        have Q3 := Lib.hid ((HLR.out.cell 3).trans (show _ = some (Value.int .u64 ((ev0).tk : Int)) from rfl))
        have Q4 := Lib.hid ((HLR.out.cell 4).trans (show _ = some (Value.int .u64 ((ev0).vl : Int)) from rfl))
        clear HF HNO HYES
        go_wp2
        refine bodyPost_ret (v := .tuple #[.agg (evC ev0), .bool false]) (by simp [results, Tryd.results35, go_sem, Q0.out, Q1.out, Q2.out, Q3.out, Q4.out]) rfl ?_
        exact ⟨_, _, rfl, HLN.out, HBR.out⟩
      have HLN := Lib.hid (HYES.out HF.out)
      have c0 := (HU.out.evt.cell 0).trans (show _ = some (Value.int .i64 x9.th) from rfl)
      have c1 := (HU.out.evt.cell 1).trans (show _ = some (Value.int .i64 x9.kd) from rfl)
      have c2 := (HU.out.evt.cell 2).trans (show _ = some (Value.int .i64 x9.rg) from rfl)
      have c3 := (HU.out.evt.cell 3).trans (show _ = some (Value.int .u64 (x9.tk : Int)) from rfl)
      have c4 := (HU.out.evt.cell 4).trans (show _ = some (Value.int .u64 (x9.vl : Int)) from rfl)
      have cl := HU.out.evt.lt
      have lt := (HU).out.res.lt
      have f0 := (HU).out.res.free 0
      have f1 := (HU).out.res.free 1
      have f2 := (HU).out.res.free 2
      have f3 := (HU).out.res.free 3
      have f4 := (HU).out.res.free 4
      have r0 := ((HU).out.res.cell 0).trans (show _ = some (Value.int .i64 0) from rfl)
      have r1 := ((HU).out.res.cell 1).trans (show _ = some (Value.int .i64 0) from rfl)
      have r2 := ((HU).out.res.cell 2).trans (show _ = some (Value.int .i64 0) from rfl)
      have r3 := ((HU).out.res.cell 3).trans (show _ = some (Value.int .u64 0) from rfl)
      have r4 := ((HU).out.res.cell 4).trans (show _ = some (Value.int .u64 0) from rfl)
      have HBR := Lib.hid (below_res5 HU.out.bel N0 (.int .i64 x9.th) (.int .i64 x9.kd) (.int .i64 x9.rg) (.int .u64 (x9.tk : Int)) (.int .u64 (x9.vl : Int)) (Nat.le_of_eq HN0.out))
      have HLR := Lib.hid (((((HU.out.res.put 0 (.int .i64 x9.th)).put 1 (.int .i64 x9.kd)).put 2 (.int .i64 x9.rg)).put 3 (.int .u64 (x9.tk : Int))).put 4 (.int .u64 (x9.vl : Int)))
      have Q0 := Lib.hid ((HLR.out.cell 0).trans (show _ = some (Value.int .i64 (x9).th) from rfl))
      have Q1 := Lib.hid ((HLR.out.cell 1).trans (show _ = some (Value.int .i64 (x9).kd) from rfl))
      have Q2 := Lib.hid ((HLR.out.cell 2).trans (show _ = some (Value.int .i64 (x9).rg) from rfl))
      have Q3 := Lib.hid ((HLR.out.cell 3).trans (show _ = some (Value.int .u64 ((x9).tk : Int)) from rfl))
      have Q4 := Lib.hid ((HLR.out.cell 4).trans (show _ = some (Value.int .u64 ((x9).vl : Int)) from rfl))
      clear HF HNO HYES
      go_wp2
      refine bodyPost_ret (v := .tuple #[.agg (evC x9), .bool true]) (by simp [results, Tryd.results35, go_sem, Q0.out, Q1.out, Q2.out, Q3.out, Q4.out]) rfl ?_
      exact ⟨_, _, rfl, HLN.out, HBR.out⟩
end Go.Proofs.YtndcnflboikodaaDoor
