import Derived.Test.YtahojmioonpodaaLaw2
import Derived.Test.YtahojmioonpodaaCmath
namespace Go.Proofs.Ytahojmioonpodaa
open Go.RowKit
set_option linter.unusedVariables false
set_option linter.unusedSimpArgs false
theorem cellsH_of {zs : List Int} (h : ∀ n ∈ zs, (Lit.int .u64 n).wf = true) : zs.map (Value.int .u64) = cellsH (zs.map Int.toNat) ∧ ∀ n ∈ zs.map Int.toNat, n ≤ 18446744073709551615 := by
  constructor
  · unfold cellsH
    rw [List.map_map]
    refine List.map_congr_left (fun n hn => ?_)
    have := Go.bounds_u64 (h n hn)
    simp only [Function.comp]
    rw [Int.toNat_of_nonneg this.1]
  · intro n hn
    obtain ⟨z, hz, rfl⟩ := List.mem_map.1 hn
    have := Go.bounds_u64 (h z hz)
    omega
/-- A step of the ring in block g: what of the law's own stays. -/
theorem cl_step {w a b : World} {g : Nat} {z : Rc} (k : Kept (oneRow g) a b) (hg : w.heap.size < g) (h : Lies a w.heap.size 23 #[.int .i64 z.k, .int .i64 z.c, .int .i64 z.r] ∧ Below w.heap.size w a) :
    Lies b w.heap.size 23 #[.int .i64 z.k, .int .i64 z.c, .int .i64 z.r] ∧ Below w.heap.size w b :=
  ⟨h.1.kept k (fun (e : w.heap.size = g) => by omega), h.2.trans (k.below h.2.size (fun j hj (e : j = g) => by omega))⟩
set_option maxHeartbeats 8000000 in
set_option maxRecDepth 100000 in
theorem closed_walk (z : Rc) (a1 : Option Addr) (len1 cap1 : Nat) (zs : List Int) (w : World) (hz : rcOk z) (ha : ArgInts .u64 w a1 len1 cap1 zs) :
    Calls Try.prog 8 #[.agg #[.int .i64 z.k, .int .i64 z.c, .int .i64 z.r], .slice a1 len1 cap1] w fun e w' => e = .returned (.bool true) ∧ Below w.heap.size w w' := by
  obtain ⟨hn, hc1, hc2, hlz, hrow, hwf⟩ := ha
  obtain ⟨hce, hvb⟩ := cellsH_of hwf
  rw [hce] at hrow
  obtain ⟨vs, hvs⟩ : ∃ vs, zs.map Int.toNat = vs := ⟨_, rfl⟩
  rw [hvs] at hrow hvb
  have hlv : vs.length = len1 := by rw [← hvs, List.length_map]; exact hlz
  subst hlv
  clear hce hvs hlz hwf
  have hsq : SeqAt w (.slice a1 vs.length cap1) (cellsH vs) := SeqAt.of_arg hrow (Below.refl _ _) (by unfold cellsH; simp) hc1 hc2
  unfold maxLen at hc2
  have hb := (Below.refl w.heap.size w).alloc (Nat.le_refl _) (.cells #[.int .i64 z.k, .int .i64 z.c, .int .i64 z.r] 23)
  have lo := Lies.made w 23 #[.int .i64 z.k, .int .i64 z.c, .int .i64 z.r]
  have LO := Lib.hid lo
  have HB := Lib.hid hb
  have HS := Lib.hid hsq
  have HVB := Lib.hid hvb
  clear lo hb hsq hvb hrow
  go_enter Try.func8, Try.ntmps8
  go_wp2_with fail
  refine (awake_any _).mono ?_
  rintro e w1 ⟨rfl, hb1⟩
  have lo1 := LO.out.below hb1 LO.out.lt
  have hb1 := HB.out.trans (hb1.mono HB.out.size)
  have c0 := (lo1.cell 0).trans (show _ = some (Value.int .i64 z.k) from rfl)
  have c1 := (lo1.cell 1).trans (show _ = some (Value.int .i64 z.c) from rfl)
  have c2 := (lo1.cell 2).trans (show _ = some (Value.int .i64 z.r) from rfl)
  have LO1 := Lib.hid lo1
  clear lo1 LO HB
  go_wp2_with fail
  refine (refMay z.k z.c z.r _).mono ?_
  rintro e w2 ⟨rfl, hb2⟩
  have lo2 := LO1.out.below hb2 LO1.out.lt
  have hb2 := hb1.trans (hb2.mono hb1.size)
  have LO2 := Lib.hid lo2
  clear c0 c1 c2
  have c0 := (lo2.cell 0).trans (show _ = some (Value.int .i64 z.k) from rfl)
  have c1 := (lo2.cell 1).trans (show _ = some (Value.int .i64 z.c) from rfl)
  have c2 := (lo2.cell 2).trans (show _ = some (Value.int .i64 z.r) from rfl)
  clear lo2 LO1 hb1
  obtain ⟨mb, hmb⟩ : ∃ mb, mayB z.k z.c z.r = mb := ⟨_, rfl⟩
  rw [hmb]
  cases mb
  · clear hmb
    go_wp2_with fail
    refine (awake_any _).mono ?_
    rintro e w3 ⟨rfl, hb3⟩
    have hb3 := hb2.trans (hb3.mono hb2.size)
    go_wp2
    go_ret
    exact ⟨rfl, hb3⟩
  obtain ⟨cap, hcap⟩ : ∃ n : Nat, z.c = n := ⟨z.c.toNat, by have := of_decide_eq_true hmb; omega⟩
  obtain ⟨rd, hrd⟩ : ∃ n : Nat, z.r = n := ⟨z.r.toNat, by have := of_decide_eq_true hmb; omega⟩
  have hmb := of_decide_eq_true hmb
  have n1 : 1 ≤ cap := by omega
  have n2 : cap ≤ 64 := by omega
  have n3 : 1 ≤ rd := by omega
  have n4 : rd ≤ 8 := by omega
  have n5 : z.k = 1 ∧ rd = 1 ∨ z.k = 2 := by omega
  have HN := Lib.hid (fun w => rgNew z.k cap rd w n1 n2 n3 n4 n5)
  have HCAP := Lib.hid hcap
  have HRD := Lib.hid hrd
  rw [hcap] at c1
  rw [hrd] at c2
  clear hmb n5 hcap hrd
  by_cases hlc : vs.length ≤ cap
  · have hlci : ¬ (cap : Int) < (vs.length : Int) := by omega
    go_wp2_with fail
    refine (HN.out _).mono ?_
    rintro e w3 ⟨g, rfl, hg, hr3, hb3⟩
    have lo3 := LO2.out.below hb3 LO2.out.lt
    have hg0 := Nat.lt_of_lt_of_le LO2.out.lt hg
    have hb3 := hb2.trans (hb3.mono hb2.size)
    rw [← fill_zero cap rd vs] at hr3
    have HR3 := Lib.hid hr3
    have HL3 := Lib.hid (And.intro lo3 hb3)
    clear lo3 hr3 hb3 HN LO2 hb2 hg c0 c1 c2
    go_wp2_with fail
    go_loopw [46] (fun u wr => ∃ k : Nat, k ≤ vs.length ∧ u = .int .i64 k ∧ RgAt wr g 83 [] [] (fillR cap rd vs k) ∧ Lies wr w.heap.size 23 #[.int .i64 z.k, .int .i64 z.c, .int .i64 z.r] ∧ Below w.heap.size w wr) (fun u _ => vs.length - (intOf u).toNat)
    case atStart => exact ⟨0, by omega, rfl, HR3.out, HL3.out⟩
    case round =>
      clear HR3 HL3
      obtain ⟨k, hk, rfl, hr, hl⟩ := hrel
      by_cases hlt : k < vs.length
      · have hki : (k : Int) < (vs.length : Int) := by omega
        obtain ⟨v, hv⟩ : ∃ v, vs[k]? = some v := ⟨_, List.getElem?_eq_getElem hlt⟩
        have hv64 := HVB.out v (List.mem_of_getElem? hv)
        have hvd : vs.getD k 0 = v := by rw [List.getD_eq_getElem?_getD, hv]; rfl
        obtain ⟨b, off, rfl, _, hcv⟩ := HS.out.get hl.2 (k := k) (u := .int .u64 (v : Int)) (by unfold cellsH; rw [List.getElem?_map, hv]; rfl)
        obtain ⟨f1, f2, f3⟩ := fill_claim (cap := cap) (rd := rd) (vs := vs) (i := k) (by omega)
        obtain ⟨f4, f5⟩ := fill_pub (rd := rd) (vs := vs) (i := k) (v := v) (show k < cap by omega) n2 hvd
        have hC := rgClaim hr rfl (by show k < _; omega)
        rw [f1, f2, f3] at hC
        have HC := Lib.hid hC
        have HL := Lib.hid hl
        have HF := Lib.hid (And.intro f4 f5)
        have HV64 := Lib.hid hv64
        have hwk : IntKind.u64.wrap (k : Int) = (k : Int) := by rw [IntKind.wrap_u64]; omega
        clear hr hl hv hvd f1 f2 f3 f4 f5 hC hv64
        go_wp2_with fail
        refine HC.out.mono ?_
        rintro e w5 ⟨rfl, hr5, hk5⟩
        have hl5 := cl_step hk5 hg0 HL.out
        have hP := rgPublish k v hr5 rfl (by omega) HV64.out
        rw [HF.out.1, HF.out.2] at hP
        have HP := Lib.hid hP
        have HL5 := Lib.hid hl5
        clear hr5 hk5 hl5 hP HC HL hcv
        go_wp2_with fail
        refine HP.out.mono ?_
        rintro e w6 ⟨rfl, hr6, hk6⟩
        have hl6 := cl_step hk6 hg0 HL5.out
        have HR6 := Lib.hid hr6
        have HL6 := Lib.hid hl6
        clear hr6 hk6 hl6 HP HL5 HF
        go_wp2
        go_roundw
        case rel => exact ⟨k + 1, by omega, by go_num, HR6.out, HL6.out⟩
        case measure => simp [intOf]; omega
      · obtain rfl : k = vs.length := by omega
        have HC := Lib.hid (rgClose hr rfl)
        have HL := Lib.hid hl
        clear hr hl
        go_wp2_with fail
        refine HC.out.mono ?_
        rintro e w5 ⟨rfl, hr5, hk5⟩
        have hl5 := cl_step hk5 hg0 HL.out
        have HC5 := Lib.hid (rgClose hr5 rfl)
        have HL5 := Lib.hid hl5
        clear hr5 hk5 hl5 HC HL
        go_wp2_with fail
        refine HC5.out.mono ?_
        rintro e w6 ⟨rfl, hr6, hk6⟩
        have hl6 := cl_step hk6 hg0 HL5.out
        have hr6 : RgAt w6 g 83 [] [] (drainR cap rd vs 0 0) := by rw [drain_zero n3]; exact hr6
        have c2 := (hl6.1.cell 2).trans (show _ = some (Value.int .i64 z.r) from rfl)
        rw [HRD.out] at c2
        have hwl := hl6.1.lt
        have HR6 := Lib.hid hr6
        have HL6 := Lib.hid hl6
        clear hr6 hk6 hl6 HC5 HL5
        go_wp2_with fail
        clear c2 hwl
        go_loopw [82] (fun u wr => ∃ j : Nat, j ≤ rd ∧ u = .int .i64 j ∧ RgAt wr g 83 [] [] (drainR cap rd vs j 0) ∧ Lies wr w.heap.size 23 #[.int .i64 z.k, .int .i64 z.c, .int .i64 z.r] ∧ Below w.heap.size w wr) (fun u _ => rd - (intOf u).toNat)
        case atStart => exact ⟨0, by omega, rfl, HR6.out, HL6.out⟩
        case round =>
          clear HR6 HL6
          obtain ⟨j, hj, rfl, hr, hl⟩ := hrel
          by_cases hjl : j < rd
          · have hji : (j : Int) < (rd : Int) := by omega
            have HR := Lib.hid hr
            have HL := Lib.hid hl
            clear hr hl
            go_wp2_with fail
            go_loopw [87] (fun u wq => ∃ i : Nat, i ≤ vs.length ∧ u = .int .i64 i ∧ RgAt wq g 83 [] [] (drainR cap rd vs j i) ∧ Lies wq w.heap.size 23 #[.int .i64 z.k, .int .i64 z.c, .int .i64 z.r] ∧ Below w.heap.size w wq) (fun u _ => vs.length - (intOf u).toNat)
            case atStart => exact ⟨0, by omega, rfl, HR.out, HL.out⟩
            case round =>
              clear HR HL
              obtain ⟨i, hi, rfl, hr, hl⟩ := hrel
              by_cases hil : i < vs.length
              · have hii : (i : Int) < (vs.length : Int) := by omega
                obtain ⟨v, hv⟩ : ∃ v, vs[i]? = some v := ⟨_, List.getElem?_eq_getElem hil⟩
                have hvd : vs.getD i 0 = v := by rw [List.getD_eq_getElem?_getD, hv]; rfl
                obtain ⟨b, off, rfl, _, hcv⟩ := HS.out.get hl.2 (k := i) (u := .int .u64 (v : Int)) (by unfold cellsH; rw [List.getElem?_map, hv]; rfl)
                obtain ⟨f1, f2, f3⟩ := drain_take (cap := cap) hjl n4 hil
                obtain ⟨f4, f5, f6⟩ := drain_rel (cap := cap) hjl n4 hil hlc n2 hvd
                have hT := rgTake j hr rfl
                rw [f1, f2, f3] at hT
                have HT := Lib.hid hT
                have HL := Lib.hid hl
                have HF := Lib.hid (And.intro f4 (And.intro f5 f6))
                have hwk : IntKind.u64.wrap (i : Int) = (i : Int) := by rw [IntKind.wrap_u64]; omega
                clear hr hl hv hvd f1 f2 f3 f4 f5 f6 hT
                go_wp2_with fail
                refine HT.out.mono ?_
                rintro e w7 ⟨rfl, hr7, hk7⟩
                have hl7 := cl_step hk7 hg0 HL.out
                have hP := rgRelease j i hr7 rfl (by omega)
                rw [HF.out.1, HF.out.2.1, HF.out.2.2] at hP
                have HP := Lib.hid hP
                have HL7 := Lib.hid hl7
                clear hr7 hk7 hl7 hP HT HL hcv
                go_wp2_with fail
                refine HP.out.mono ?_
                rintro e w8 ⟨rfl, hr8, hk8⟩
                have hl8 := cl_step hk8 hg0 HL7.out
                have HR8 := Lib.hid hr8
                have HL8 := Lib.hid hl8
                clear hr8 hk8 hl8 HP HL7 HF
                go_wp2
                go_roundw
                case rel => exact ⟨i + 1, by omega, by go_num, HR8.out, HL8.out⟩
                case measure => simp [intOf]; omega
              · obtain rfl : i = vs.length := by omega
                obtain ⟨f1, f2, f3, f4⟩ := drain_done (cap := cap) (vs := vs) hjl n4
                have hT := rgTake j hr rfl
                rw [f1, f2, f3] at hT
                have HT := Lib.hid hT
                have HL := Lib.hid hl
                have HF := Lib.hid f4
                clear hr hl f1 f2 f3 f4 hT
                go_wp2_with fail
                refine HT.out.mono ?_
                rintro e w7 ⟨rfl, hr7, hk7⟩
                have hl7 := cl_step hk7 hg0 HL.out
                have hE := rgEmpty j hr7 rfl
                rw [HF.out] at hE
                have HE := Lib.hid hE
                rw [drain_turn] at hr7
                have HR7 := Lib.hid hr7
                have HL7 := Lib.hid hl7
                clear hr7 hk7 hl7 hE HT HL HF
                go_wp2_with fail
                refine HE.out.mono ?_
                rintro e w8 ⟨rfl, n8, hw8⟩
                have hr8 : RgAt w8 g 83 [] [] (drainR cap rd vs (j + 1) 0) := by rw [hw8]; exact HR7.out.drewN n8
                have hl8 : Lies w8 w.heap.size 23 #[.int .i64 z.k, .int .i64 z.c, .int .i64 z.r] ∧ Below w.heap.size w w8 := by rw [hw8]; exact ⟨HL7.out.1.drewN n8, below_drewN HL7.out.2 n8⟩
                have HR8 := Lib.hid hr8
                have HL8 := Lib.hid hl8
                clear hw8 hr8 hl8 HR7 HL7 HE
                go_wp2
                go_roundw
                case rel => exact ⟨j + 1, by omega, by go_num, HR8.out, HL8.out⟩
                case measure => simp [intOf]; omega
          · obtain rfl : j = rd := by omega
            have hC := rgClaim hr rfl (by show vs.length < _; omega)
            rw [(drain_claim cap j vs j 0).1, (drain_claim cap j vs j 0).2] at hC
            have HC := Lib.hid hC
            have HL := Lib.hid hl
            clear hr hl hC
            go_wp2_with fail
            refine HC.out.mono ?_
            rintro e w7 ⟨rfl, _, hk7⟩
            have hl7 := (cl_step hk7 hg0 HL.out).2
            clear hk7
            go_wp2
            go_ret
            exact ⟨rfl, hl7⟩
  · have hlci : (cap : Int) < (vs.length : Int) := by omega
    go_wp2_with fail
    refine (awake_any _).mono ?_
    rintro e w3 ⟨rfl, hb3⟩
    have hb3 := hb2.trans (hb3.mono hb2.size)
    go_wp2
    go_ret
    exact ⟨rfl, hb3⟩
end Go.Proofs.Ytahojmioonpodaa
