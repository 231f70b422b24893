/-
  The law ThreadKeeps (layer 16), walked.
-/
import Derived.Test.YtiegmpjoiekekaaAwake
import Derived.Test.YtiegmpjoiekekaaThs2
import Derived.Test.YtiegmpjoiekekaaThk
namespace Go.Proofs.Ytiegmpjoiekekaa
open Go.RowKit
set_option linter.unusedVariables false
set_option linter.unusedSimpArgs false
theorem Try.infoIn : (Try.prog.info? 50).map (fun i => (i.zero, i.size, i.bytes)) = some (some (.agg #[.int .i64 0, .int .i64 0, .int .i64 0, .int .i64 0, .int .i64 0, .int .u64 0]), 6, 48) := by kernel_rfl
theorem inF_one (l : List In) : ∀ u ∈ rowsOf inF l, u.oneCell' = true := fun u hu => by
  obtain ⟨x, _, hx⟩ := rowsOf_mem hu
  simp [inF] at hx
  rcases hx with rfl | rfl | rfl | rfl | rfl | rfl <;> rfl
theorem seqAt16 {w : World} {v : Value} {xs : List Nat} (h : SeqS w 1 v xs.length (cells64 xs)) : SeqAt w v (cells64 xs) := by
  obtain ⟨h1, A, c, h2, h3, h4, h5, h6⟩ := h
  have hl : (cells64 xs).length = xs.length := by simp [cells64]
  exact ⟨A, c, by rw [hl]; exact h2, by rw [hl]; exact h3, h4, h6⟩
theorem samT_self (x : Th) : samT x x = true := by
  simp [samT, regB]
abbrev nmC (f : Nat → Bool) : Array Value := #[.bool (f 0), .bool (f 1), .bool (f 2), .bool (f 3), .bool (f 4), .bool (f 5), .bool (f 6), .bool (f 7)]
def nmS (f : Nat → Bool) (i : Nat) : Nat → Bool := fun j => f j || (j == i)
theorem nmC_get (f : Nat → Bool) {i : Nat} (h : i < 8) : (nmC f)[i]? = some (.bool (f i)) := by
  have : i = 0 ∨ i = 1 ∨ i = 2 ∨ i = 3 ∨ i = 4 ∨ i = 5 ∨ i = 6 ∨ i = 7 := by omega
  rcases this with rfl | rfl | rfl | rfl | rfl | rfl | rfl | rfl <;> rfl
theorem nmC_set (f : Nat → Bool) {i : Nat} (h : i < 8) : (nmC f).setIfInBounds i (.bool true) = nmC (nmS f i) := by
  have : i = 0 ∨ i = 1 ∨ i = 2 ∨ i = 3 ∨ i = 4 ∨ i = 5 ∨ i = 6 ∨ i = 7 := by omega
  rcases this with rfl | rfl | rfl | rfl | rfl | rfl | rfl | rfl <;> simp [nmC, nmS]
theorem nmC_ext {f g : Nat → Bool} (h : ∀ j, j < 8 → f j = g j) : nmC f = nmC g := by
  simp only [nmC, h 0 (by omega), h 1 (by omega), h 2 (by omega), h 3 (by omega), h 4 (by omega), h 5 (by omega), h 6 (by omega), h 7 (by omega)]
theorem nm_next {l : List In} {k : Nat} {i : In} {an bn : Nat} (hi : l[k]? = some i) (ha : i.a = an) (hb : i.b = bn) : ∀ j, nmS (nmS (nmB (l.take k)) an) bn j = nmB (l.take (k + 1)) j := by
  intro j
  unfold nmB
  rw [List.take_add_one, hi, Option.toList_some, List.any_append]
  unfold nmS
  simp only [List.any_cons, List.any_nil, Bool.or_false]
  rw [ha, hb, Bool.or_assoc]
  congr 1
  rw [Bool.eq_iff_iff]
  simp only [Bool.or_eq_true, beq_iff_eq]
  omega
set_option maxHeartbeats 8000000 in
set_option maxRecDepth 100000 in
theorem keeps_core (A : Option Addr) (len c : Nat) (l : List In) (sx : Th) (sS : Option Addr) (scs : Nat) (e : Ev) (v : Int) (w : World) (h0 : InArg w A len c l) (h1 : TaAt w ⟨sx, sS, scs⟩) (h2 : evOk e) (h3 : (Lit.int .u64 v).wf = true) :
    Calls Try.prog 5 #[.slice A len c, .agg (thC sx (.slice sS sx.sn.length scs)), .agg (evC e), .int .u64 v] w fun q w' => q = .returned (.bool true) ∧ Below w.heap.size w w' := by
  obtain ⟨rfl, hin, hok⟩ := h0
  obtain ⟨hx, hsq⟩ := h1
  have hx : thOk sx := hx
  have hsq : SeqS w 1 (.slice sS sx.sn.length scs) sx.sn.length (cells64 sx.sn) := hsq
  obtain ⟨hc1, hc2⟩ := seq_form hin
  obtain ⟨vn, rfl⟩ : ∃ n : Nat, v = n := ⟨v.toNat, by have := Go.bounds_u64 h3; omega⟩
  have hvn : vn ≤ 18446744073709551615 := by have := Go.bounds_u64 h3; omega
  have hb0 : Below w.heap.size w ((w.alloc (.cells (thC sx (.slice sS sx.sn.length scs)) 27)).alloc (.cells (evC e) 42)) := ((Below.refl _ _).alloc (Nat.le_refl _) _).alloc (by simp) _
  have l0 := (Lies.made w 27 (thC sx (.slice sS sx.sn.length scs))).alloc (.cells (evC e) 42)
  have l1 := Lies.made (w.alloc (.cells (thC sx (.slice sS sx.sn.length scs)) 27)) 42 (evC e)
  rw [show (w.alloc (.cells (thC sx (.slice sS sx.sn.length scs)) 27)).heap.size = w.heap.size + 1 by simp] at l1
  have HE := Lib.hid l1
  clear l1
  have HB := Lib.hid hb0
  have HG := Lib.hid l0
  have HIN := Lib.hid (show ∀ q : World, Below w.heap.size w q → InsAt q A c l from fun q hq => hin.later hq)
  have HSQ := Lib.hid (fun (q : World) (hq : Below w.heap.size w q) => hsq.later hq)
  have HOK := Lib.hid hok
  have HX := Lib.hid hx
  have HEO := Lib.hid h2
  have HVN := Lib.hid hvn
  clear hb0 l0 hin hsq hok hx h2
  go_enter Try.func5, Try.ntmps5
  go_upto_region 1 with (fail)
  generalize hw1 : ((w.alloc (.cells (thC sx (.slice sS sx.sn.length scs)) 27)).alloc (.cells (evC e) 42)) = w1 at *
  clear hw1
  go_wp2_with fail
  refine (awake16 _).mono ?_
  rintro q w2 ⟨rfl, hbm⟩
  replace HG := Lib.hid (HG.out.below hbm HG.out.lt)
  replace HE := Lib.hid (HE.out.below hbm HE.out.lt)
  replace HB := Lib.hid (HB.out.trans (hbm.mono HB.out.size))
  clear hbm w1
  have c13 := (HG.out.cell 13).trans (show _ = some (.slice sS sx.sn.length scs) from rfl)
  have cl := HG.out.lt
  by_cases hl3 : 300 < l.length
  · have d1 : decide ((300 : Int) < (l.length : Int)) = true := decide_eq_true (by omega)
    have d1n : decide (300 < l.length) = true := decide_eq_true hl3
    go_wp2_with fail
    refine (awake16 _).mono ?_
    rintro q w3 ⟨rfl, hbm⟩
    have HBZ := Lib.hid (HB.out.trans (hbm.mono HB.out.size))
    go_wp2
    go_ret
    exact ⟨rfl, HBZ.out⟩
  have d1 : decide ((300 : Int) < (l.length : Int)) = false := decide_eq_false (by omega)
  have d1n : decide (300 < l.length) = false := decide_eq_false hl3
  by_cases hl1 : 100 < sx.sn.length
  · have d2 : decide ((100 : Int) < (sx.sn.length : Int)) = true := decide_eq_true (by omega)
    have d2n : decide (100 < sx.sn.length) = true := decide_eq_true hl1
    go_wp2_with fail
    refine (awake16 _).mono ?_
    rintro q w3 ⟨rfl, hbm⟩
    have HBZ := Lib.hid (HB.out.trans (hbm.mono HB.out.size))
    go_wp2
    go_ret
    exact ⟨rfl, HBZ.out⟩
  have d2 : decide ((100 : Int) < (sx.sn.length : Int)) = false := decide_eq_false (by omega)
  have d2n : decide (100 < sx.sn.length) = false := decide_eq_false hl1
  have HRT := Lib.hid (rfThRight l A c sx (.slice sS sx.sn.length scs) w2 (HIN.out _ HB.out) HOK.out)
  obtain ⟨tb, htb⟩ : ∃ b, thB l sx = b := ⟨_, rfl⟩
  rw [htb] at HRT
  have HTB := Lib.hid htb
  clear htb c13 cl
  have c0 := (HG.out.cell 0).trans (show _ = some (Value.int .i64 sx.at_) from rfl)
  have c1 := (HG.out.cell 1).trans (show _ = some (Value.int .i64 sx.ph) from rfl)
  have c2 := (HG.out.cell 2).trans (show _ = some (Value.int .i64 sx.rg) from rfl)
  have c3 := (HG.out.cell 3).trans (show _ = some (Value.int .i64 sx.st) from rfl)
  have c4 := (HG.out.cell 4).trans (show _ = some (Value.int .u64 (sx.tk : Int)) from rfl)
  have c5 := (HG.out.cell 5).trans (show _ = some (Value.int .u64 (sx.r 0 : Int)) from rfl)
  have c6 := (HG.out.cell 6).trans (show _ = some (Value.int .u64 (sx.r 1 : Int)) from rfl)
  have c7 := (HG.out.cell 7).trans (show _ = some (Value.int .u64 (sx.r 2 : Int)) from rfl)
  have c8 := (HG.out.cell 8).trans (show _ = some (Value.int .u64 (sx.r 3 : Int)) from rfl)
  have c9 := (HG.out.cell 9).trans (show _ = some (Value.int .u64 (sx.r 4 : Int)) from rfl)
  have c10 := (HG.out.cell 10).trans (show _ = some (Value.int .u64 (sx.r 5 : Int)) from rfl)
  have c11 := (HG.out.cell 11).trans (show _ = some (Value.int .u64 (sx.r 6 : Int)) from rfl)
  have c12 := (HG.out.cell 12).trans (show _ = some (Value.int .u64 (sx.r 7 : Int)) from rfl)
  have c13 := (HG.out.cell 13).trans (show _ = some ((.slice sS sx.sn.length scs)) from rfl)
  have cl := HG.out.lt
  go_wp2_with fail
  refine HRT.out.mono ?_
  rintro q w3 ⟨rfl, hbm⟩
  clear d1 d1n d2 d2n HRT
  clear c0 c1 c2 c3 c4 c5 c6 c7 c8 c9 c10 c11 c12 c13 cl
  replace HG := Lib.hid (HG.out.below hbm HG.out.lt)
  replace HE := Lib.hid (HE.out.below hbm HE.out.lt)
  replace HB := Lib.hid (HB.out.trans (hbm.mono HB.out.size))
  clear hbm
  cases tb
  · go_wp2_with fail
    refine (awake16 _).mono ?_
    rintro q w4 ⟨rfl, hbm⟩
    have HBZ := Lib.hid (HB.out.trans (hbm.mono HB.out.size))
    go_wp2
    go_ret
    exact ⟨rfl, HBZ.out⟩
  have c0 := (HG.out.cell 0).trans (show _ = some (Value.int .i64 sx.at_) from rfl)
  have c1 := (HG.out.cell 1).trans (show _ = some (Value.int .i64 sx.ph) from rfl)
  have c2 := (HG.out.cell 2).trans (show _ = some (Value.int .i64 sx.rg) from rfl)
  have c3 := (HG.out.cell 3).trans (show _ = some (Value.int .i64 sx.st) from rfl)
  have c4 := (HG.out.cell 4).trans (show _ = some (Value.int .u64 (sx.tk : Int)) from rfl)
  have c5 := (HG.out.cell 5).trans (show _ = some (Value.int .u64 (sx.r 0 : Int)) from rfl)
  have c6 := (HG.out.cell 6).trans (show _ = some (Value.int .u64 (sx.r 1 : Int)) from rfl)
  have c7 := (HG.out.cell 7).trans (show _ = some (Value.int .u64 (sx.r 2 : Int)) from rfl)
  have c8 := (HG.out.cell 8).trans (show _ = some (Value.int .u64 (sx.r 3 : Int)) from rfl)
  have c9 := (HG.out.cell 9).trans (show _ = some (Value.int .u64 (sx.r 4 : Int)) from rfl)
  have c10 := (HG.out.cell 10).trans (show _ = some (Value.int .u64 (sx.r 5 : Int)) from rfl)
  have c11 := (HG.out.cell 11).trans (show _ = some (Value.int .u64 (sx.r 6 : Int)) from rfl)
  have c12 := (HG.out.cell 12).trans (show _ = some (Value.int .u64 (sx.r 7 : Int)) from rfl)
  have c13 := (HG.out.cell 13).trans (show _ = some ((.slice sS sx.sn.length scs)) from rfl)
  have cl := HG.out.lt
  have q0 := (HE.out.cell 0).trans (show _ = some (Value.int .i64 e.th) from rfl)
  have q1 := (HE.out.cell 1).trans (show _ = some (Value.int .i64 e.kd) from rfl)
  have q2 := (HE.out.cell 2).trans (show _ = some (Value.int .i64 e.rg) from rfl)
  have q3 := (HE.out.cell 3).trans (show _ = some (Value.int .u64 (e.tk : Int)) from rfl)
  have q4 := (HE.out.cell 4).trans (show _ = some (Value.int .u64 (e.vl : Int)) from rfl)
  have ql := HE.out.lt
  go_wp2_with fail
  refine (doU l A c sx sS scs e vn w3 (HIN.out _ HB.out) HOK.out HX.out (HSQ.out _ HB.out) (by omega)).mono ?_
  generalize hzz : doZ l sx e vn = zz at *
  have HZZ := Lib.hid hzz
  clear hzz
  obtain ⟨zt, er⟩ := zz
  rintro q w4 ⟨u, rfl, ⟨A2, k2, rfl, ho⟩, hbm⟩
  clear c0 c1 c2 c3 c4 c5 c6 c7 c8 c9 c10 c11 c12 c13 cl
  clear q0 q1 q2 q3 q4 ql
  replace HG := Lib.hid (HG.out.below hbm HG.out.lt)
  replace HE := Lib.hid (HE.out.below hbm HE.out.lt)
  replace HB := Lib.hid (HB.out.trans (hbm.mono HB.out.size))
  have HO1 := Lib.hid (owns_mono ho (Nat.zero_le _))
  clear hbm ho
  have HBn := Lib.hid ((Below.refl w4.heap.size w4).alloc (Nat.le_refl _) (.cells thZ 27))
  have lz0 := (Lies.made w4 27 thZ)
  have HZ0_0 := Lib.hid lz0
  clear lz0
  generalize hw3 : (w4.alloc (.cells thZ 27)) = w3 at *
  generalize hn5 : w4.heap.size = n5 at *
  have hns : n5 ≤ w3.heap.size := by rw [← hn5]; exact HBn.out.size
  have hk0 := kept_rowT (w := w3) (g := n5) (thC zt (.slice A2 zt.sn.length k2))
  have HZ1_0 := Lib.hid (lies_row HZ0_0.out (thC zt (.slice A2 zt.sn.length k2)))
  have HBn0 := Lib.hid (HBn.out.trans (hk0.below (show n5 ≤ w3.heap.size from hns) (fun k hk (e : k = n5) => by omega)))
  have hks0 : w3.heap.size ≤ (w3.setRow (n5) (thC zt (.slice A2 zt.sn.length k2))).heap.size := hk0.size
  clear hk0
  go_upto_region 4 with (first | refine wpList_store_row rfl 27 _ _ rfl (n5) (thC zt (.slice A2 zt.sn.length k2)) rfl rfl 27 thZ HZ0_0.out infoTh rfl (thC_one _ rfl) ?_)
  clear hw3 hks0 hns HBn HZ0_0
  generalize (w3.setRow (n5) (thC zt (.slice A2 zt.sn.length k2))) = w5 at *
  have hbf := HBn0.out
  rw [← hn5] at hbf
  clear HBn0
  replace HG := Lib.hid (HG.out.below hbf HG.out.lt)
  replace HE := Lib.hid (HE.out.below hbf HE.out.lt)
  replace HO1 := Lib.hid (owned_below HO1.out hbf)
  replace HB := Lib.hid (HB.out.trans (hbf.mono HB.out.size))
  clear hbf
  have HT1 := HZ1_0
  clear HZ1_0
  generalize n5 = b1 at *
  clear hn5
  by_cases her : er = 0
  case neg =>
    have j0 : (er != 0) = true := by rw [bne_iff_ne]; exact her
    clear her
    go_wp2
    go_ret
    exact ⟨rfl, HB.out⟩
  subst her
  have hzd : ∃ i y, rightE e = true ∧ fitB (reqA l (nxT l sx)) e = true ∧ zt = behT (atT l (nxT l sx)) (nxT l sx) e vn ∧ i = atT l (nxT l sx) ∧ y = nxT l sx := by
    have h := HZZ.out
    unfold doZ at h
    rw [if_pos HTB.out] at h
    by_cases h1 : rightE e = true
    · rw [if_pos h1] at h
      by_cases h2 : fitB (reqA l (nxT l sx)) e = true
      · rw [if_pos h2] at h
        injection h with h3 h4
        exact ⟨_, _, h1, h2, h3.symm, rfl, rfl⟩
      · rw [if_neg h2] at h; injection h with h3 h4; exact absurd h4 (by decide)
    · rw [if_neg h1] at h; injection h with h3 h4; exact absurd h4 (by decide)
  obtain ⟨_, _, hre, hf, hzt, _, _⟩ := hzd
  have hsn := (nxT_facts HTB.out HX.out HOK.out).2.2
  have HSNL : Hid (zt.sn.length = sx.sn.length + (if e.kd = 12 then 1 else 0)) := by show _ = _; rw [hzt, beh_sn.1, hsn]
  have HSNG : Hid (∀ k u, sx.sn[k]? = some u → zt.sn[k]? = some u) := fun k u hu => by rw [hzt]; exact beh_sn.2 k u (by rw [hsn]; exact hu)
  have HTZ : Hid (thB l zt = true) := by show _ = _; rw [hzt]; exact thB_beh HTB.out HX.out HOK.out hre hf
  have HRZ : Hid (∀ j, nmB l j = false → zt.r j = sx.r j) := fun j hj => by rw [hzt]; exact beh_r hj HTB.out HX.out HOK.out hf
  have HLC := Lib.hid (codeB_parts (thB_parts HTB.out).1).2
  have HABS : Hid (∀ i ∈ l, (0 ≤ i.a ∧ i.a ≤ 7) ∧ (0 ≤ i.b ∧ i.b ≤ 7)) := fun i hi => right_ab (HLC.out i hi).1
  clear hre hf hzt hsn HLC HZZ HEO HVN HX
  have c13 := (HG.out.cell 13).trans (show _ = some (.slice sS sx.sn.length scs) from rfl)
  have cl := HG.out.lt
  have q1 := (HE.out.cell 1).trans (show _ = some (Value.int .i64 e.kd) from rfl)
  have ql := HE.out.lt
  have hwn : IntKind.i64.wrap ((sx.sn.length : Int) + 1) = (sx.sn.length : Int) + 1 := IntWalk.i64_in _ (by omega)
  have HRT := Lib.hid (fun q hq => rfThRight l A c zt (.slice A2 zt.sn.length k2) q hq HOK.out)
  rw [HTZ.out] at HRT
  by_cases k12 : e.kd = 12
  · have jk : (e.kd == 12) = true := by rw [beq_iff_eq]; exact k12
    rw [if_pos k12] at HSNL
    clear k12
    have d0 := (HT1.out.cell 0).trans (show _ = some (Value.int .i64 zt.at_) from rfl)
    have d1 := (HT1.out.cell 1).trans (show _ = some (Value.int .i64 zt.ph) from rfl)
    have d2 := (HT1.out.cell 2).trans (show _ = some (Value.int .i64 zt.rg) from rfl)
    have d3 := (HT1.out.cell 3).trans (show _ = some (Value.int .i64 zt.st) from rfl)
    have d4 := (HT1.out.cell 4).trans (show _ = some (Value.int .u64 (zt.tk : Int)) from rfl)
    have d5 := (HT1.out.cell 5).trans (show _ = some (Value.int .u64 (zt.r 0 : Int)) from rfl)
    have d6 := (HT1.out.cell 6).trans (show _ = some (Value.int .u64 (zt.r 1 : Int)) from rfl)
    have d7 := (HT1.out.cell 7).trans (show _ = some (Value.int .u64 (zt.r 2 : Int)) from rfl)
    have d8 := (HT1.out.cell 8).trans (show _ = some (Value.int .u64 (zt.r 3 : Int)) from rfl)
    have d9 := (HT1.out.cell 9).trans (show _ = some (Value.int .u64 (zt.r 4 : Int)) from rfl)
    have d10 := (HT1.out.cell 10).trans (show _ = some (Value.int .u64 (zt.r 5 : Int)) from rfl)
    have d11 := (HT1.out.cell 11).trans (show _ = some (Value.int .u64 (zt.r 6 : Int)) from rfl)
    have d12 := (HT1.out.cell 12).trans (show _ = some (Value.int .u64 (zt.r 7 : Int)) from rfl)
    have d13 := (HT1.out.cell 13).trans (show _ = some ((.slice A2 zt.sn.length k2)) from rfl)
    have dl := HT1.out.lt
    go_wp2_with fail
    clear q1 ql c13 cl hwn
    refine (HRT.out _ (HIN.out _ HB.out)).mono ?_
    rintro q w6 ⟨rfl, hbm⟩
    clear d0 d1 d2 d3 d4 d5 d6 d7 d8 d9 d10 d11 d12 d13 dl
    replace HG := Lib.hid (HG.out.below hbm HG.out.lt)
    replace HE := Lib.hid (HE.out.below hbm HE.out.lt)
    replace HT1 := Lib.hid (HT1.out.below hbm HT1.out.lt)
    replace HO1 := Lib.hid (owned_below HO1.out hbm)
    replace HB := Lib.hid (HB.out.trans (hbm.mono HB.out.size))
    clear hbm HRT HTZ HE
    have d13 := (HT1.out.cell 13).trans (show _ = some (.slice A2 zt.sn.length k2) from rfl)
    have dl := HT1.out.lt
    rw [show zt.sn.length = sx.sn.length + 1 from HSNL.out] at d13
    have hnq : (((sx.sn.length : Int) + 1) != ((sx.sn.length : Int) + 1)) = false := by rw [bne_eq_false_iff_eq]
    have c13 := (HG.out.cell 13).trans (show _ = some (.slice sS sx.sn.length scs) from rfl)
    have cl := HG.out.lt
    have hzl : sx.sn.length ≤ zt.sn.length := by rw [HSNL.out]; omega
    have hsq1 := seqAt16 (HSQ.out _ HB.out)
    have hsq2 := seqAt16 (SeqS.of_owns HO1.out)
    have HS1 := Lib.hid hsq1
    have HS2 := Lib.hid hsq2
    clear hsq1 hsq2
    rw [show zt.sn.length = sx.sn.length + 1 from HSNL.out] at HS2
    go_wp2_with fail
    clear hnq
    go_loopw [70] (fun u wr => ∃ k : Nat, k ≤ sx.sn.length ∧ u = .int .i64 k ∧ Hid (wr = w6)) (fun u _ => sx.sn.length - (intOf u).toNat)
    case atStart => exact ⟨0, by omega, rfl, Lib.hid rfl⟩
    case round =>
      obtain ⟨k, hk, rfl, HW⟩ := hrel
      obtain rfl : w6 = wr := HW.out.symm
      clear HW
      by_cases hlt : k < sx.sn.length
      · have hki : (k : Int) < (sx.sn.length : Int) := by omega
        obtain ⟨u, hu⟩ : ∃ u, sx.sn[k]? = some u := ⟨_, List.getElem?_eq_getElem hlt⟩
        have hu2 := HSNG.out k u hu
        obtain ⟨ba, oa, hA, ca⟩ := HS1.out.get (Below.refl _ _) (k := k) (u := .int .u64 (u : Int)) (by unfold cells64; rw [List.getElem?_map, hu]; rfl)
        obtain ⟨bb, ob, hB2, cb⟩ := HS2.out.get (Below.refl _ _) (k := k) (u := .int .u64 (u : Int)) (by unfold cells64; rw [List.getElem?_map, hu2]; rfl)
        subst hA
        subst hB2
        have hk2 : (k : Int) < (sx.sn.length : Int) + 1 := by omega
        have huu : ((u : Int) != (u : Int)) = false := by rw [bne_eq_false_iff_eq]
        have huu2 : (u != u) = false := by rw [bne_eq_false_iff_eq]
        clear hu hu2
        go_wp2
        go_roundw
        case rel => exact ⟨k + 1, by omega, by go_num, by first | trivial | exact Lib.hid rfl⟩
        case measure => simp [intOf]; omega
      · obtain rfl : k = sx.sn.length := by omega
        clear c13 cl d13 dl
        have lz := Lies.made w6 48 (nmC (fun _ => false))
        have hbz := (Below.refl w6.heap.size w6).alloc (Nat.le_refl _) (.cells (nmC (fun _ => false)) 48)
        have HNM := Lib.hid lz
        have hgl : w.heap.size < w6.heap.size := HG.out.lt
        have htl : b1 < w6.heap.size := HT1.out.lt
        replace HG := Lib.hid (HG.out.below hbz HG.out.lt)
        replace HT1 := Lib.hid (HT1.out.below hbz HT1.out.lt)
        replace HB := Lib.hid (HB.out.trans (hbz.mono HB.out.size))
        clear lz hbz HS1 HS2 HSQ HO1
        go_upto_region 18 with (fail)
        generalize hw7 : w6.alloc (.cells (nmC (fun _ => false)) 48) = w7 at *
        generalize hn14e : w6.heap.size = b14 at *
        clear hw7 hn14e
        have hw14 : w.heap.size ≤ b14 := by omega
        go_wp2_with fail
        go_loopw [85] (fun u wq => ∃ k : Nat, k ≤ l.length ∧ u = .int .i64 k ∧ Hid (Lies wq b14 48 (nmC (nmB (l.take k)))) ∧ Hid (Kept (oneRow b14) w7 wq)) (fun u _ => l.length - (intOf u).toNat)
        case atStart => exact ⟨0, by omega, rfl, HNM, Lib.hid (Kept.refl _ _)⟩
        case round =>
          clear HNM
          obtain ⟨k, hk, rfl, HNM, HKW⟩ := hrel
          by_cases hlt : k < l.length
          · have hki : (k : Int) < (l.length : Int) := by omega
            obtain ⟨i, hi⟩ : ∃ i, l[k]? = some i := ⟨_, List.getElem?_eq_getElem hlt⟩
            have hab := HABS.out i (List.mem_of_getElem? hi)
            obtain ⟨an, han⟩ : ∃ n : Nat, i.a = n := ⟨i.a.toNat, by omega⟩
            obtain ⟨bn, hbn⟩ : ∃ n : Nat, i.b = n := ⟨i.b.toNat, by omega⟩
            have ha8 : an < 8 := by omega
            have hb8 : bn < 8 := by omega
            have HNX := Lib.hid (nm_next hi han hbn)
            have HAN := Lib.hid han
            have HBN := Lib.hid hbn
            have hih := HIN.out wr (HB.out.trans (HKW.out.below HB.out.size (fun k hk (e : k = b14) => by omega)))
            obtain ⟨b, off, rfl, hbl, hg⟩ := InsAt.at_ hih hi
            have g0 := hg 0 _ (by decide) rfl
            have g1 := hg 1 _ (by decide) rfl
            have g2 := hg 2 _ (by decide) rfl
            have g3 := hg 3 _ (by decide) rfl
            have g4 := hg 4 _ (by decide) rfl
            have g5 := hg 5 _ (by decide) rfl
            rw [Nat.add_zero] at g0
            clear hg hi han hbn hab hih hbl
            go_upto_region 21 with (fail)
            clear g0 g1 g2 g3 g4 g5
            have hba := (Below.refl wr.heap.size wr).alloc (Nat.le_refl _) (.cells (inC i) 50)
            have HI := Lib.hid (Lies.made wr 50 (inC i))
            have hnb : b14 < wr.heap.size := HNM.out.lt
            replace HNM := Lib.hid (HNM.out.below hba HNM.out.lt)
            replace HKW := Lib.hid (HKW.out.trans (Kept.of_below hba) (fun _ _ e => e.elim))
            clear hba
            generalize hw9 : wr.alloc (.cells (inC i) 50) = w9 at *
            generalize hbi : wr.heap.size = bi at *
            clear hw9 hbi
            generalize nmB (l.take k) = nf at *
            have d1 := (HI.out.cell 1).trans (show _ = some (Value.int .i64 i.a) from rfl)
            have d2 := (HI.out.cell 2).trans (show _ = some (Value.int .i64 i.b) from rfl)
            have dl := HI.out.lt
            rw [HAN.out] at d1
            rw [HBN.out] at d2
            have t1 : decide ((0 : Int) ≤ (an : Int)) = true := decide_eq_true (by omega)
            have t2 : decide ((an : Int) < 8) = true := decide_eq_true (by omega)
            have t3 : decide ((0 : Int) ≤ (bn : Int)) = true := decide_eq_true (by omega)
            have t4 : decide ((bn : Int) < 8) = true := decide_eq_true (by omega)
            have t2n : decide (an < 8) = true := decide_eq_true ha8
            have t4n : decide (bn < 8) = true := decide_eq_true hb8
            have HIK := Lib.hid (fun (q : World) (hq : Kept (oneRow b14) w9 q) => HI.out.kept hq (fun (e : bi = b14) => by omega))
            go_wp2_with fail
            clear d1 d2 dl t1 t2 t3 t4 t2n t4n
            refine wp_region_rely (fun q => Kept (oneRow b14) w9 q) (rgV [some (.pointer (some ⟨bi, 1, none⟩)), some (.int .i64 (an : Int)), some (.pointer (some ⟨bi, 2, none⟩)), some (.int .i64 (bn : Int)), some (.pointer (some ⟨b14, an, none⟩)), none, some (.pointer (some ⟨b14, bn, none⟩)), none, none] (fun j q => match j with | 5 => Lies q b14 48 (nmC (nmS nf an)) | 7 => Lies q b14 48 (nmC (nmS (nmS nf an) bn)) | 8 => Lies q b14 48 (nmC nf) | _ => True)) [some 107, some 108, some 109, some 110, some 111, none, some 112, none] [[], [0], [], [2], [1], [4, 8], [3], [6, 5]] [[], [0], [], [2], [0, 1], [0, 1, 4, 8], [0, 1, 2, 3, 4, 8], [0, 1, 2, 3, 4, 5, 6, 8]] [[2, 3, 8], [2, 3, 8], [0, 1, 4, 5, 8], [0, 1, 4, 5, 8], [2, 3, 8], [2, 3], [5], []] [0, 1, 2, 3, 4, 5, 6, 7] 9 (by kernel_rfl) (by kernel_rfl) (by kernel_rfl) (by kernel_rfl) ?rS ?rI ?rT ?rE
            case rS => exact Kept.drew _ _
            case rI =>
              intro j h1 h2
              have h1 : j < 9 := h1
              have h2 : 8 ≤ j := h2
              obtain rfl : j = 8 := by omega
              exact HNM.out.drewN 1
            case rT =>
              refine RelySteps.cons (RelyStep.mk [] [2, 3, 8] rfl rfl rfl (fun xv wS hS hV bq hb K hK => ?_)) ?_
              · clear hV
                simp only [putsOf, List.foldl_cons, List.foldl_nil, List.getD_cons_zero, List.getD_cons_succ, List.getD_nil, cond_true, cond_false, Act.put, List.setIfInBounds_toArray, List.set_cons_zero, List.set_cons_succ] at hb
                subst hb
                rw [if_pos (by rfl)]
                go_wp2_with fail
                exact hK.out _ _ ⟨_, rfl, hS, rfl, AllP.same _⟩
              refine RelySteps.cons (RelyStep.mk [0] [2, 3, 8] rfl rfl rfl (fun xv wS hS hV bq hb K hK => ?_)) ?_
              · obtain ⟨h0, _⟩ := hV
                have h0 : xv 0 = _ := h0
                simp only [putsOf, List.foldl_cons, List.foldl_nil, List.getD_cons_zero, List.getD_cons_succ, List.getD_nil, cond_true, cond_false, Act.put, List.setIfInBounds_toArray, List.set_cons_zero, List.set_cons_succ, h0] at hb
                clear h0
                subst hb
                rw [if_pos (by rfl)]
                (have HZ := HIK.out _ hS; have c9 := (HZ.cell 1).trans (show _ = some (Value.int .i64 i.a) from rfl); rw [HAN.out] at c9; have c8 := HZ.lt; clear HZ)
                go_wp2_with fail
                exact hK.out _ _ ⟨_, rfl, hS, rfl, AllP.same _⟩
              refine RelySteps.cons (RelyStep.mk [] [0, 1, 4, 5, 8] rfl rfl rfl (fun xv wS hS hV bq hb K hK => ?_)) ?_
              · clear hV
                simp only [putsOf, List.foldl_cons, List.foldl_nil, List.getD_cons_zero, List.getD_cons_succ, List.getD_nil, cond_true, cond_false, Act.put, List.setIfInBounds_toArray, List.set_cons_zero, List.set_cons_succ] at hb
                subst hb
                rw [if_pos (by rfl)]
                go_wp2_with fail
                exact hK.out _ _ ⟨_, rfl, hS, rfl, AllP.same _⟩
              refine RelySteps.cons (RelyStep.mk [2] [0, 1, 4, 5, 8] rfl rfl rfl (fun xv wS hS hV bq hb K hK => ?_)) ?_
              · obtain ⟨h2, _⟩ := hV
                have h2 : xv 2 = _ := h2
                simp only [putsOf, List.foldl_cons, List.foldl_nil, List.getD_cons_zero, List.getD_cons_succ, List.getD_nil, cond_true, cond_false, Act.put, List.setIfInBounds_toArray, List.set_cons_zero, List.set_cons_succ, h2] at hb
                clear h2
                subst hb
                rw [if_pos (by rfl)]
                (have HZ := HIK.out _ hS; have c9 := (HZ.cell 2).trans (show _ = some (Value.int .i64 i.b) from rfl); rw [HBN.out] at c9; have c8 := HZ.lt; clear HZ)
                go_wp2_with fail
                exact hK.out _ _ ⟨_, rfl, hS, rfl, AllP.same _⟩
              refine RelySteps.cons (RelyStep.mk [1] [2, 3, 8] rfl rfl rfl (fun xv wS hS hV bq hb K hK => ?_)) ?_
              · obtain ⟨h1, _⟩ := hV
                have h1 : xv 1 = _ := h1
                simp only [putsOf, List.foldl_cons, List.foldl_nil, List.getD_cons_zero, List.getD_cons_succ, List.getD_nil, cond_true, cond_false, Act.put, List.setIfInBounds_toArray, List.set_cons_zero, List.set_cons_succ, h1] at hb
                clear h1
                subst hb
                rw [if_pos (by rfl)]
                go_wp2_with fail
                exact hK.out _ _ ⟨_, rfl, hS, rfl, AllP.same _⟩
              refine RelySteps.cons (RelyStep.mk [4, 8] [2, 3] rfl rfl rfl (fun xv wS hS hV bq hb K hK => ?_)) ?_
              · obtain ⟨h4, h8, _⟩ := hV
                have h4 : xv 4 = _ := h4
                simp only [putsOf, List.foldl_cons, List.foldl_nil, List.getD_cons_zero, List.getD_cons_succ, List.getD_nil, cond_true, cond_false, Act.put, List.setIfInBounds_toArray, List.set_cons_zero, List.set_cons_succ, h4] at hb
                clear h4
                generalize xv 8 = y8 at *
                subst hb
                rw [if_pos (by rfl)]
                have qq : Lies wS b14 48 (nmC (nf)) := h8
                have HSS := Lib.hid hS
                have HQ := Lib.hid qq
                have c9 := (qq.cell an).trans (nmC_get (nf) ha8)
                have f9 := qq.free an
                have c8 := qq.lt
                clear hS qq h8
                go_wp2_with fail
                exact hK.out _ _ ⟨undef, rfl, HSS.out.trans (Kept.put wS b14 an _) (fun _ _ e => e), (show Lies _ _ _ _ from by have := HQ.out.put an (.bool true); rwa [nmC_set (nf) ha8] at this), AllP.of _ (fun j hj u h => rgV_low (all_in (fun j => (List.getD ([some (.pointer (some ⟨bi, 1, none⟩)), some (.int .i64 (an : Int)), some (.pointer (some ⟨bi, 2, none⟩)), some (.int .i64 (bn : Int)), some (.pointer (some ⟨b14, an, none⟩)), none, some (.pointer (some ⟨b14, bn, none⟩)), none, none] : List (Option Value)) j none).isSome) rfl hj) h)⟩
              refine RelySteps.cons (RelyStep.mk [3] [5] rfl rfl rfl (fun xv wS hS hV bq hb K hK => ?_)) ?_
              · obtain ⟨h3, _⟩ := hV
                have h3 : xv 3 = _ := h3
                simp only [putsOf, List.foldl_cons, List.foldl_nil, List.getD_cons_zero, List.getD_cons_succ, List.getD_nil, cond_true, cond_false, Act.put, List.setIfInBounds_toArray, List.set_cons_zero, List.set_cons_succ, h3] at hb
                clear h3
                subst hb
                rw [if_pos (by rfl)]
                go_wp2_with fail
                exact hK.out _ _ ⟨_, rfl, hS, rfl, AllP.same _⟩
              refine RelySteps.cons (RelyStep.mk [6, 5] [] rfl rfl rfl (fun xv wS hS hV bq hb K hK => ?_)) ?_
              · obtain ⟨h6, h5, _⟩ := hV
                have h6 : xv 6 = _ := h6
                simp only [putsOf, List.foldl_cons, List.foldl_nil, List.getD_cons_zero, List.getD_cons_succ, List.getD_nil, cond_true, cond_false, Act.put, List.setIfInBounds_toArray, List.set_cons_zero, List.set_cons_succ, h6] at hb
                clear h6
                generalize xv 5 = y5 at *
                subst hb
                rw [if_pos (by rfl)]
                have qq : Lies wS b14 48 (nmC (nmS nf an)) := h5
                have HSS := Lib.hid hS
                have HQ := Lib.hid qq
                have c9 := (qq.cell bn).trans (nmC_get (nmS nf an) hb8)
                have f9 := qq.free bn
                have c8 := qq.lt
                clear hS qq h5
                go_wp2_with fail
                exact hK.out _ _ ⟨undef, rfl, HSS.out.trans (Kept.put wS b14 bn _) (fun _ _ e => e), (show Lies _ _ _ _ from by have := HQ.out.put bn (.bool true); rwa [nmC_set (nmS nf an) hb8] at this), AllP.of _ (fun j hj u h => rgV_low (all_in (fun j => (List.getD ([some (.pointer (some ⟨bi, 1, none⟩)), some (.int .i64 (an : Int)), some (.pointer (some ⟨bi, 2, none⟩)), some (.int .i64 (bn : Int)), some (.pointer (some ⟨b14, an, none⟩)), none, some (.pointer (some ⟨b14, bn, none⟩)), none, none] : List (Option Value)) j none).isSome) rfl hj) h)⟩
              exact RelySteps.nil
            case rE =>
              intro xv wE hS hV
              have h7 := hV 7 (by decide) (by decide)
              clear hV
              simp only [putsOf, List.foldl_cons, List.foldl_nil, List.getD_cons_zero, List.getD_cons_succ, List.getD_nil, cond_true, cond_false, Act.put, List.setIfInBounds_toArray, List.set_cons_zero, List.set_cons_succ]
              generalize xv 0 = y0 at *
              generalize xv 1 = y1 at *
              generalize xv 2 = y2 at *
              generalize xv 3 = y3 at *
              generalize xv 4 = y4 at *
              generalize xv 5 = y5 at *
              generalize xv 6 = y6 at *
              generalize xv 7 = y7 at *
              have hnm : Lies wE b14 48 (nmC (nmS (nmS nf an) bn)) := h7
              rw [nmC_ext (fun j _ => HNX.out j)] at hnm
              have HNM2 := Lib.hid hnm
              have HKW2 := Lib.hid (HKW.out.trans hS (fun _ _ e => e))
              clear hS h7 hnm HNM HKW HIK HI HNX HAN HBN
              go_wp2
              go_roundw
              case rel => exact ⟨k + 1, by omega, by go_num, HNM2, HKW2⟩
              case measure => simp [intOf]; omega
          · obtain rfl : k = l.length := by omega
            rw [List.take_length] at HNM
            have hkz := HKW.out
            replace HG := Lib.hid (HG.out.kept hkz (fun (e : w.heap.size = b14) => by omega))
            replace HT1 := Lib.hid (HT1.out.kept hkz (fun (e : b1 = b14) => by omega))
            replace HB := Lib.hid (HB.out.trans (hkz.below HB.out.size (fun k hk (e : k = b14) => by omega)))
            clear HKW hkz
            go_wp2_with fail
            go_loopw [114] (fun u wq => ∃ j : Nat, j ≤ 8 ∧ u = .int .i64 j ∧ Hid (Kept noRow wr wq)) (fun u _ => 8 - (intOf u).toNat)
            case atStart => exact ⟨0, by omega, rfl, Lib.hid (Kept.refl _ _)⟩
            case round =>
              obtain ⟨j, hj, rfl, HKW⟩ := hrel
              by_cases hlt2 : j < 8
              · have hji : (j : Int) < 8 := by omega
                have ln := HNM.out.kept HKW.out (fun e => e)
                have lt := HT1.out.kept HKW.out (fun e => e)
                have lg := HG.out.kept HKW.out (fun e => e)
                have cn := (ln.cell j).trans (nmC_get _ hlt2)
                have ct := (lt.cell (5 + j)).trans (thC_reg zt _ hlt2)
                have cg := (lg.cell (5 + j)).trans (thC_reg sx _ hlt2)
                have cnl := ln.lt
                have ctl := lt.lt
                have cgl := lg.lt
                clear ln lt lg
                obtain ⟨nb, hnb⟩ : ∃ b, nmB l j = b := ⟨_, rfl⟩
                rw [hnb] at cn
                cases nb with
                | true =>
                  clear ct cg ctl cgl hnb
                  go_wp2_with fail
                  go_quiet (fail)
                  have HK2 := Lib.hid (HKW.out.trans (Kept.drewN noRow _ nq) (fun _ _ e => e))
                  clear cn cnl
                  go_wp2
                  go_roundw
                  case rel => exact ⟨j + 1, by omega, by go_num, HK2⟩
                  case measure => simp [intOf]; omega
                | false =>
                  rw [HRZ.out j hnb] at ct
                  have hee : ((sx.r j : Int) != (sx.r j : Int)) = false := by rw [bne_eq_false_iff_eq]
                  have hee2 : (sx.r j != sx.r j) = false := by rw [bne_eq_false_iff_eq]
                  clear hnb
                  go_wp2_with fail
                  go_quiet (fail)
                  have HK2 := Lib.hid (HKW.out.trans (Kept.drewN noRow _ nq) (fun _ _ e => e))
                  clear cn cnl ct cg ctl cgl
                  go_wp2
                  go_roundw
                  case rel => exact ⟨j + 1, by omega, by go_num, HK2⟩
                  case measure => simp [intOf]; omega
              · obtain rfl : j = 8 := by omega
                have HBZ := Lib.hid (HB.out.trans ((HKW.out.below HB.out.size (fun _ _ e => e))))
                go_wp2
                go_ret
                exact ⟨rfl, HBZ.out⟩
  have jk : (e.kd == 12) = false := by rw [beq_eq_false_iff_ne]; exact k12
  rw [if_neg k12, Nat.add_zero] at HSNL
  clear k12
  have d0 := (HT1.out.cell 0).trans (show _ = some (Value.int .i64 zt.at_) from rfl)
  have d1 := (HT1.out.cell 1).trans (show _ = some (Value.int .i64 zt.ph) from rfl)
  have d2 := (HT1.out.cell 2).trans (show _ = some (Value.int .i64 zt.rg) from rfl)
  have d3 := (HT1.out.cell 3).trans (show _ = some (Value.int .i64 zt.st) from rfl)
  have d4 := (HT1.out.cell 4).trans (show _ = some (Value.int .u64 (zt.tk : Int)) from rfl)
  have d5 := (HT1.out.cell 5).trans (show _ = some (Value.int .u64 (zt.r 0 : Int)) from rfl)
  have d6 := (HT1.out.cell 6).trans (show _ = some (Value.int .u64 (zt.r 1 : Int)) from rfl)
  have d7 := (HT1.out.cell 7).trans (show _ = some (Value.int .u64 (zt.r 2 : Int)) from rfl)
  have d8 := (HT1.out.cell 8).trans (show _ = some (Value.int .u64 (zt.r 3 : Int)) from rfl)
  have d9 := (HT1.out.cell 9).trans (show _ = some (Value.int .u64 (zt.r 4 : Int)) from rfl)
  have d10 := (HT1.out.cell 10).trans (show _ = some (Value.int .u64 (zt.r 5 : Int)) from rfl)
  have d11 := (HT1.out.cell 11).trans (show _ = some (Value.int .u64 (zt.r 6 : Int)) from rfl)
  have d12 := (HT1.out.cell 12).trans (show _ = some (Value.int .u64 (zt.r 7 : Int)) from rfl)
  have d13 := (HT1.out.cell 13).trans (show _ = some ((.slice A2 zt.sn.length k2)) from rfl)
  have dl := HT1.out.lt
  go_wp2_with fail
  clear q1 ql c13 cl hwn
  refine (HRT.out _ (HIN.out _ HB.out)).mono ?_
  rintro q w6 ⟨rfl, hbm⟩
  clear d0 d1 d2 d3 d4 d5 d6 d7 d8 d9 d10 d11 d12 d13 dl
  replace HG := Lib.hid (HG.out.below hbm HG.out.lt)
  replace HE := Lib.hid (HE.out.below hbm HE.out.lt)
  replace HT1 := Lib.hid (HT1.out.below hbm HT1.out.lt)
  replace HO1 := Lib.hid (owned_below HO1.out hbm)
  replace HB := Lib.hid (HB.out.trans (hbm.mono HB.out.size))
  clear hbm HRT HTZ HE
  have d13 := (HT1.out.cell 13).trans (show _ = some (.slice A2 zt.sn.length k2) from rfl)
  have dl := HT1.out.lt
  rw [show zt.sn.length = sx.sn.length from HSNL.out] at d13
  have hnq : ((sx.sn.length : Int) != (sx.sn.length : Int)) = false := by rw [bne_eq_false_iff_eq]
  have c13 := (HG.out.cell 13).trans (show _ = some (.slice sS sx.sn.length scs) from rfl)
  have cl := HG.out.lt
  have hzl : sx.sn.length ≤ zt.sn.length := by rw [HSNL.out]; omega
  have hsq1 := seqAt16 (HSQ.out _ HB.out)
  have hsq2 := seqAt16 (SeqS.of_owns HO1.out)
  have HS1 := Lib.hid hsq1
  have HS2 := Lib.hid hsq2
  clear hsq1 hsq2
  rw [show zt.sn.length = sx.sn.length from HSNL.out] at HS2
  go_wp2_with fail
  clear hnq
  go_loopw [70] (fun u wr => ∃ k : Nat, k ≤ sx.sn.length ∧ u = .int .i64 k ∧ Hid (wr = w6)) (fun u _ => sx.sn.length - (intOf u).toNat)
  case atStart => exact ⟨0, by omega, rfl, Lib.hid rfl⟩
  case round =>
    obtain ⟨k, hk, rfl, HW⟩ := hrel
    obtain rfl : w6 = wr := HW.out.symm
    clear HW
    by_cases hlt : k < sx.sn.length
    · have hki : (k : Int) < (sx.sn.length : Int) := by omega
      obtain ⟨u, hu⟩ : ∃ u, sx.sn[k]? = some u := ⟨_, List.getElem?_eq_getElem hlt⟩
      have hu2 := HSNG.out k u hu
      obtain ⟨ba, oa, hA, ca⟩ := HS1.out.get (Below.refl _ _) (k := k) (u := .int .u64 (u : Int)) (by unfold cells64; rw [List.getElem?_map, hu]; rfl)
      obtain ⟨bb, ob, hB2, cb⟩ := HS2.out.get (Below.refl _ _) (k := k) (u := .int .u64 (u : Int)) (by unfold cells64; rw [List.getElem?_map, hu2]; rfl)
      subst hA
      subst hB2
      have hk2 : (k : Int) < (sx.sn.length : Int) := by omega
      have huu : ((u : Int) != (u : Int)) = false := by rw [bne_eq_false_iff_eq]
      have huu2 : (u != u) = false := by rw [bne_eq_false_iff_eq]
      clear hu hu2
      go_wp2
      go_roundw
      case rel => exact ⟨k + 1, by omega, by go_num, by first | trivial | exact Lib.hid rfl⟩
      case measure => simp [intOf]; omega
    · obtain rfl : k = sx.sn.length := by omega
      clear c13 cl d13 dl
      have lz := Lies.made w6 48 (nmC (fun _ => false))
      have hbz := (Below.refl w6.heap.size w6).alloc (Nat.le_refl _) (.cells (nmC (fun _ => false)) 48)
      have HNM := Lib.hid lz
      have hgl : w.heap.size < w6.heap.size := HG.out.lt
      have htl : b1 < w6.heap.size := HT1.out.lt
      replace HG := Lib.hid (HG.out.below hbz HG.out.lt)
      replace HT1 := Lib.hid (HT1.out.below hbz HT1.out.lt)
      replace HB := Lib.hid (HB.out.trans (hbz.mono HB.out.size))
      clear lz hbz HS1 HS2 HSQ HO1
      go_upto_region 18 with (fail)
      generalize hw7 : w6.alloc (.cells (nmC (fun _ => false)) 48) = w7 at *
      generalize hn14e : w6.heap.size = b14 at *
      clear hw7 hn14e
      have hw14 : w.heap.size ≤ b14 := by omega
      go_wp2_with fail
      go_loopw [85] (fun u wq => ∃ k : Nat, k ≤ l.length ∧ u = .int .i64 k ∧ Hid (Lies wq b14 48 (nmC (nmB (l.take k)))) ∧ Hid (Kept (oneRow b14) w7 wq)) (fun u _ => l.length - (intOf u).toNat)
      case atStart => exact ⟨0, by omega, rfl, HNM, Lib.hid (Kept.refl _ _)⟩
      case round =>
        clear HNM
        obtain ⟨k, hk, rfl, HNM, HKW⟩ := hrel
        by_cases hlt : k < l.length
        · have hki : (k : Int) < (l.length : Int) := by omega
          obtain ⟨i, hi⟩ : ∃ i, l[k]? = some i := ⟨_, List.getElem?_eq_getElem hlt⟩
          have hab := HABS.out i (List.mem_of_getElem? hi)
          obtain ⟨an, han⟩ : ∃ n : Nat, i.a = n := ⟨i.a.toNat, by omega⟩
          obtain ⟨bn, hbn⟩ : ∃ n : Nat, i.b = n := ⟨i.b.toNat, by omega⟩
          have ha8 : an < 8 := by omega
          have hb8 : bn < 8 := by omega
          have HNX := Lib.hid (nm_next hi han hbn)
          have HAN := Lib.hid han
          have HBN := Lib.hid hbn
          have hih := HIN.out wr (HB.out.trans (HKW.out.below HB.out.size (fun k hk (e : k = b14) => by omega)))
          obtain ⟨b, off, rfl, hbl, hg⟩ := InsAt.at_ hih hi
          have g0 := hg 0 _ (by decide) rfl
          have g1 := hg 1 _ (by decide) rfl
          have g2 := hg 2 _ (by decide) rfl
          have g3 := hg 3 _ (by decide) rfl
          have g4 := hg 4 _ (by decide) rfl
          have g5 := hg 5 _ (by decide) rfl
          rw [Nat.add_zero] at g0
          clear hg hi han hbn hab hih hbl
          go_upto_region 21 with (fail)
          clear g0 g1 g2 g3 g4 g5
          have hba := (Below.refl wr.heap.size wr).alloc (Nat.le_refl _) (.cells (inC i) 50)
          have HI := Lib.hid (Lies.made wr 50 (inC i))
          have hnb : b14 < wr.heap.size := HNM.out.lt
          replace HNM := Lib.hid (HNM.out.below hba HNM.out.lt)
          replace HKW := Lib.hid (HKW.out.trans (Kept.of_below hba) (fun _ _ e => e.elim))
          clear hba
          generalize hw9 : wr.alloc (.cells (inC i) 50) = w9 at *
          generalize hbi : wr.heap.size = bi at *
          clear hw9 hbi
          generalize nmB (l.take k) = nf at *
          have d1 := (HI.out.cell 1).trans (show _ = some (Value.int .i64 i.a) from rfl)
          have d2 := (HI.out.cell 2).trans (show _ = some (Value.int .i64 i.b) from rfl)
          have dl := HI.out.lt
          rw [HAN.out] at d1
          rw [HBN.out] at d2
          have t1 : decide ((0 : Int) ≤ (an : Int)) = true := decide_eq_true (by omega)
          have t2 : decide ((an : Int) < 8) = true := decide_eq_true (by omega)
          have t3 : decide ((0 : Int) ≤ (bn : Int)) = true := decide_eq_true (by omega)
          have t4 : decide ((bn : Int) < 8) = true := decide_eq_true (by omega)
          have t2n : decide (an < 8) = true := decide_eq_true ha8
          have t4n : decide (bn < 8) = true := decide_eq_true hb8
          have HIK := Lib.hid (fun (q : World) (hq : Kept (oneRow b14) w9 q) => HI.out.kept hq (fun (e : bi = b14) => by omega))
          go_wp2_with fail
          clear d1 d2 dl t1 t2 t3 t4 t2n t4n
          refine wp_region_rely (fun q => Kept (oneRow b14) w9 q) (rgV [some (.pointer (some ⟨bi, 1, none⟩)), some (.int .i64 (an : Int)), some (.pointer (some ⟨bi, 2, none⟩)), some (.int .i64 (bn : Int)), some (.pointer (some ⟨b14, an, none⟩)), none, some (.pointer (some ⟨b14, bn, none⟩)), none, none] (fun j q => match j with | 5 => Lies q b14 48 (nmC (nmS nf an)) | 7 => Lies q b14 48 (nmC (nmS (nmS nf an) bn)) | 8 => Lies q b14 48 (nmC nf) | _ => True)) [some 107, some 108, some 109, some 110, some 111, none, some 112, none] [[], [0], [], [2], [1], [4, 8], [3], [6, 5]] [[], [0], [], [2], [0, 1], [0, 1, 4, 8], [0, 1, 2, 3, 4, 8], [0, 1, 2, 3, 4, 5, 6, 8]] [[2, 3, 8], [2, 3, 8], [0, 1, 4, 5, 8], [0, 1, 4, 5, 8], [2, 3, 8], [2, 3], [5], []] [0, 1, 2, 3, 4, 5, 6, 7] 9 (by kernel_rfl) (by kernel_rfl) (by kernel_rfl) (by kernel_rfl) ?rS ?rI ?rT ?rE
          case rS => exact Kept.drew _ _
          case rI =>
            intro j h1 h2
            have h1 : j < 9 := h1
            have h2 : 8 ≤ j := h2
            obtain rfl : j = 8 := by omega
            exact HNM.out.drewN 1
          case rT =>
            refine RelySteps.cons (RelyStep.mk [] [2, 3, 8] rfl rfl rfl (fun xv wS hS hV bq hb K hK => ?_)) ?_
            · clear hV
              simp only [putsOf, List.foldl_cons, List.foldl_nil, List.getD_cons_zero, List.getD_cons_succ, List.getD_nil, cond_true, cond_false, Act.put, List.setIfInBounds_toArray, List.set_cons_zero, List.set_cons_succ] at hb
              subst hb
              rw [if_pos (by rfl)]
              go_wp2_with fail
              exact hK.out _ _ ⟨_, rfl, hS, rfl, AllP.same _⟩
            refine RelySteps.cons (RelyStep.mk [0] [2, 3, 8] rfl rfl rfl (fun xv wS hS hV bq hb K hK => ?_)) ?_
            · obtain ⟨h0, _⟩ := hV
              have h0 : xv 0 = _ := h0
              simp only [putsOf, List.foldl_cons, List.foldl_nil, List.getD_cons_zero, List.getD_cons_succ, List.getD_nil, cond_true, cond_false, Act.put, List.setIfInBounds_toArray, List.set_cons_zero, List.set_cons_succ, h0] at hb
              clear h0
              subst hb
              rw [if_pos (by rfl)]
              (have HZ := HIK.out _ hS; have c9 := (HZ.cell 1).trans (show _ = some (Value.int .i64 i.a) from rfl); rw [HAN.out] at c9; have c8 := HZ.lt; clear HZ)
              go_wp2_with fail
              exact hK.out _ _ ⟨_, rfl, hS, rfl, AllP.same _⟩
            refine RelySteps.cons (RelyStep.mk [] [0, 1, 4, 5, 8] rfl rfl rfl (fun xv wS hS hV bq hb K hK => ?_)) ?_
            · clear hV
              simp only [putsOf, List.foldl_cons, List.foldl_nil, List.getD_cons_zero, List.getD_cons_succ, List.getD_nil, cond_true, cond_false, Act.put, List.setIfInBounds_toArray, List.set_cons_zero, List.set_cons_succ] at hb
              subst hb
              rw [if_pos (by rfl)]
              go_wp2_with fail
              exact hK.out _ _ ⟨_, rfl, hS, rfl, AllP.same _⟩
            refine RelySteps.cons (RelyStep.mk [2] [0, 1, 4, 5, 8] rfl rfl rfl (fun xv wS hS hV bq hb K hK => ?_)) ?_
            · obtain ⟨h2, _⟩ := hV
              have h2 : xv 2 = _ := h2
              simp only [putsOf, List.foldl_cons, List.foldl_nil, List.getD_cons_zero, List.getD_cons_succ, List.getD_nil, cond_true, cond_false, Act.put, List.setIfInBounds_toArray, List.set_cons_zero, List.set_cons_succ, h2] at hb
              clear h2
              subst hb
              rw [if_pos (by rfl)]
              (have HZ := HIK.out _ hS; have c9 := (HZ.cell 2).trans (show _ = some (Value.int .i64 i.b) from rfl); rw [HBN.out] at c9; have c8 := HZ.lt; clear HZ)
              go_wp2_with fail
              exact hK.out _ _ ⟨_, rfl, hS, rfl, AllP.same _⟩
            refine RelySteps.cons (RelyStep.mk [1] [2, 3, 8] rfl rfl rfl (fun xv wS hS hV bq hb K hK => ?_)) ?_
            · obtain ⟨h1, _⟩ := hV
              have h1 : xv 1 = _ := h1
              simp only [putsOf, List.foldl_cons, List.foldl_nil, List.getD_cons_zero, List.getD_cons_succ, List.getD_nil, cond_true, cond_false, Act.put, List.setIfInBounds_toArray, List.set_cons_zero, List.set_cons_succ, h1] at hb
              clear h1
              subst hb
              rw [if_pos (by rfl)]
              go_wp2_with fail
              exact hK.out _ _ ⟨_, rfl, hS, rfl, AllP.same _⟩
            refine RelySteps.cons (RelyStep.mk [4, 8] [2, 3] rfl rfl rfl (fun xv wS hS hV bq hb K hK => ?_)) ?_
            · obtain ⟨h4, h8, _⟩ := hV
              have h4 : xv 4 = _ := h4
              simp only [putsOf, List.foldl_cons, List.foldl_nil, List.getD_cons_zero, List.getD_cons_succ, List.getD_nil, cond_true, cond_false, Act.put, List.setIfInBounds_toArray, List.set_cons_zero, List.set_cons_succ, h4] at hb
              clear h4
              generalize xv 8 = y8 at *
              subst hb
              rw [if_pos (by rfl)]
              have qq : Lies wS b14 48 (nmC (nf)) := h8
              have HSS := Lib.hid hS
              have HQ := Lib.hid qq
              have c9 := (qq.cell an).trans (nmC_get (nf) ha8)
              have f9 := qq.free an
              have c8 := qq.lt
              clear hS qq h8
              go_wp2_with fail
              exact hK.out _ _ ⟨undef, rfl, HSS.out.trans (Kept.put wS b14 an _) (fun _ _ e => e), (show Lies _ _ _ _ from by have := HQ.out.put an (.bool true); rwa [nmC_set (nf) ha8] at this), AllP.of _ (fun j hj u h => rgV_low (all_in (fun j => (List.getD ([some (.pointer (some ⟨bi, 1, none⟩)), some (.int .i64 (an : Int)), some (.pointer (some ⟨bi, 2, none⟩)), some (.int .i64 (bn : Int)), some (.pointer (some ⟨b14, an, none⟩)), none, some (.pointer (some ⟨b14, bn, none⟩)), none, none] : List (Option Value)) j none).isSome) rfl hj) h)⟩
            refine RelySteps.cons (RelyStep.mk [3] [5] rfl rfl rfl (fun xv wS hS hV bq hb K hK => ?_)) ?_
            · obtain ⟨h3, _⟩ := hV
              have h3 : xv 3 = _ := h3
              simp only [putsOf, List.foldl_cons, List.foldl_nil, List.getD_cons_zero, List.getD_cons_succ, List.getD_nil, cond_true, cond_false, Act.put, List.setIfInBounds_toArray, List.set_cons_zero, List.set_cons_succ, h3] at hb
              clear h3
              subst hb
              rw [if_pos (by rfl)]
              go_wp2_with fail
              exact hK.out _ _ ⟨_, rfl, hS, rfl, AllP.same _⟩
            refine RelySteps.cons (RelyStep.mk [6, 5] [] rfl rfl rfl (fun xv wS hS hV bq hb K hK => ?_)) ?_
            · obtain ⟨h6, h5, _⟩ := hV
              have h6 : xv 6 = _ := h6
              simp only [putsOf, List.foldl_cons, List.foldl_nil, List.getD_cons_zero, List.getD_cons_succ, List.getD_nil, cond_true, cond_false, Act.put, List.setIfInBounds_toArray, List.set_cons_zero, List.set_cons_succ, h6] at hb
              clear h6
              generalize xv 5 = y5 at *
              subst hb
              rw [if_pos (by rfl)]
              have qq : Lies wS b14 48 (nmC (nmS nf an)) := h5
              have HSS := Lib.hid hS
              have HQ := Lib.hid qq
              have c9 := (qq.cell bn).trans (nmC_get (nmS nf an) hb8)
              have f9 := qq.free bn
              have c8 := qq.lt
              clear hS qq h5
              go_wp2_with fail
              exact hK.out _ _ ⟨undef, rfl, HSS.out.trans (Kept.put wS b14 bn _) (fun _ _ e => e), (show Lies _ _ _ _ from by have := HQ.out.put bn (.bool true); rwa [nmC_set (nmS nf an) hb8] at this), AllP.of _ (fun j hj u h => rgV_low (all_in (fun j => (List.getD ([some (.pointer (some ⟨bi, 1, none⟩)), some (.int .i64 (an : Int)), some (.pointer (some ⟨bi, 2, none⟩)), some (.int .i64 (bn : Int)), some (.pointer (some ⟨b14, an, none⟩)), none, some (.pointer (some ⟨b14, bn, none⟩)), none, none] : List (Option Value)) j none).isSome) rfl hj) h)⟩
            exact RelySteps.nil
          case rE =>
            intro xv wE hS hV
            have h7 := hV 7 (by decide) (by decide)
            clear hV
            simp only [putsOf, List.foldl_cons, List.foldl_nil, List.getD_cons_zero, List.getD_cons_succ, List.getD_nil, cond_true, cond_false, Act.put, List.setIfInBounds_toArray, List.set_cons_zero, List.set_cons_succ]
            generalize xv 0 = y0 at *
            generalize xv 1 = y1 at *
            generalize xv 2 = y2 at *
            generalize xv 3 = y3 at *
            generalize xv 4 = y4 at *
            generalize xv 5 = y5 at *
            generalize xv 6 = y6 at *
            generalize xv 7 = y7 at *
            have hnm : Lies wE b14 48 (nmC (nmS (nmS nf an) bn)) := h7
            rw [nmC_ext (fun j _ => HNX.out j)] at hnm
            have HNM2 := Lib.hid hnm
            have HKW2 := Lib.hid (HKW.out.trans hS (fun _ _ e => e))
            clear hS h7 hnm HNM HKW HIK HI HNX HAN HBN
            go_wp2
            go_roundw
            case rel => exact ⟨k + 1, by omega, by go_num, HNM2, HKW2⟩
            case measure => simp [intOf]; omega
        · obtain rfl : k = l.length := by omega
          rw [List.take_length] at HNM
          have hkz := HKW.out
          replace HG := Lib.hid (HG.out.kept hkz (fun (e : w.heap.size = b14) => by omega))
          replace HT1 := Lib.hid (HT1.out.kept hkz (fun (e : b1 = b14) => by omega))
          replace HB := Lib.hid (HB.out.trans (hkz.below HB.out.size (fun k hk (e : k = b14) => by omega)))
          clear HKW hkz
          go_wp2_with fail
          go_loopw [114] (fun u wq => ∃ j : Nat, j ≤ 8 ∧ u = .int .i64 j ∧ Hid (Kept noRow wr wq)) (fun u _ => 8 - (intOf u).toNat)
          case atStart => exact ⟨0, by omega, rfl, Lib.hid (Kept.refl _ _)⟩
          case round =>
            obtain ⟨j, hj, rfl, HKW⟩ := hrel
            by_cases hlt2 : j < 8
            · have hji : (j : Int) < 8 := by omega
              have ln := HNM.out.kept HKW.out (fun e => e)
              have lt := HT1.out.kept HKW.out (fun e => e)
              have lg := HG.out.kept HKW.out (fun e => e)
              have cn := (ln.cell j).trans (nmC_get _ hlt2)
              have ct := (lt.cell (5 + j)).trans (thC_reg zt _ hlt2)
              have cg := (lg.cell (5 + j)).trans (thC_reg sx _ hlt2)
              have cnl := ln.lt
              have ctl := lt.lt
              have cgl := lg.lt
              clear ln lt lg
              obtain ⟨nb, hnb⟩ : ∃ b, nmB l j = b := ⟨_, rfl⟩
              rw [hnb] at cn
              cases nb with
              | true =>
                clear ct cg ctl cgl hnb
                go_wp2_with fail
                go_quiet (fail)
                have HK2 := Lib.hid (HKW.out.trans (Kept.drewN noRow _ nq) (fun _ _ e => e))
                clear cn cnl
                go_wp2
                go_roundw
                case rel => exact ⟨j + 1, by omega, by go_num, HK2⟩
                case measure => simp [intOf]; omega
              | false =>
                rw [HRZ.out j hnb] at ct
                have hee : ((sx.r j : Int) != (sx.r j : Int)) = false := by rw [bne_eq_false_iff_eq]
                have hee2 : (sx.r j != sx.r j) = false := by rw [bne_eq_false_iff_eq]
                clear hnb
                go_wp2_with fail
                go_quiet (fail)
                have HK2 := Lib.hid (HKW.out.trans (Kept.drewN noRow _ nq) (fun _ _ e => e))
                clear cn cnl ct cg ctl cgl
                go_wp2
                go_roundw
                case rel => exact ⟨j + 1, by omega, by go_num, HK2⟩
                case measure => simp [intOf]; omega
            · obtain rfl : j = 8 := by omega
              have HBZ := Lib.hid (HB.out.trans ((HKW.out.below HB.out.size (fun _ _ e => e))))
              go_wp2
              go_ret
              exact ⟨rfl, HBZ.out⟩
theorem keeps_walk (A : Option Addr) (len c : Nat) (l : List In) (s : Ta) (e : Ev) (v : Int) (w : World) (h0 : InArg w A len c l) (h1 : TaAt w s) (h2 : evOk e) (h3 : (Lit.int .u64 v).wf = true) :
    Calls Try.prog 5 #[.slice A len c, .agg (thC s.x (.slice s.S s.x.sn.length s.cs)), .agg (evC e), .int .u64 v] w fun q w' => q = .returned (.bool true) ∧ Below w.heap.size w w' := keeps_core A len c l s.x s.S s.cs e v w h0 h1 h2 h3
end Go.Proofs.Ytiegmpjoiekekaa
