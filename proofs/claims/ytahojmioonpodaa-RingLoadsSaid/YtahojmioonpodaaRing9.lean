import Derived.Test.YtahojmioonpodaaRing8
import Derived.Test.YtahojmioonpodaaRing6
namespace Go.Proofs.Ytahojmioonpodaa
open Go.RowKit
set_option linter.unusedVariables false
set_option linter.unusedSimpArgs false
/-! ## A ring that is loaded -/
def loadR (cap rd t : Nat) (cl : Bool) (hs : List Nat) (L : List Sl) : Rg := ⟨cap, rd, t, hs ++ List.replicate (8 - hs.length) 0, cl, L⟩
def loadsB (cap rd t : Nat) (cl : Bool) (hs : List Nat) (L : List Sl) : Bool := loadB cap rd L && (decide (hs.length = rd) && (cursB (loadR cap rd t cl hs L) && slotsB (loadR cap rd t cl hs L)))
theorem loadR_ok {cap rd t : Nat} {cl : Bool} {hs : List Nat} {L : List Sl} (h : loadsB cap rd t cl hs L = true) (hL : SlOk rd L) : RgOk (loadR cap rd t cl hs L) := by
  unfold loadsB at h
  simp only [Bool.and_eq_true, decide_eq_true_eq] at h
  obtain ⟨h1, h2, h3, h4⟩ := h
  have hr := hL.2.2.2.1
  unfold cursB at h3
  simp only [Bool.and_eq_true, decide_eq_true_eq] at h3
  obtain ⟨h5, h6, h7⟩ := h3
  unfold loadB at h1
  simp only [Bool.and_eq_true, decide_eq_true_eq] at h1
  refine ⟨by unfold loadR; simp; omega, hL, h1.1.symm, by unfold loadR at h6 ⊢; simp only at h6 ⊢; omega, fun x hx => ?_⟩
  unfold loadR at hx
  rcases List.mem_append.1 hx with hx | hx
  · unfold headsB at h5
    rw [List.all_eq_true] at h5
    refine of_decide_eq_true (h5 x ?_)
    unfold loadR; simp only
    rw [List.take_append_of_le_length (by omega), ← h2, List.take_of_length_le (Nat.le_refl _)]
    exact hx
  · rw [List.eq_of_mem_replicate hx]; exact Nat.zero_le _
def RLoadPost (w : World) (cap rd t : Nat) (cl : Bool) (hs : List Nat) (L : List Sl) (e : Ending) (w' : World) : Prop :=
  if loadsB cap rd t cl hs L = true then ∃ g, w.heap.size ≤ g ∧ e = .returned (.tuple #[.pointer (some ⟨g, 0, none⟩), .int .i64 0]) ∧ RgAt w' g 83 [] [] (loadR cap rd t cl hs L)
  else e = .returned (.tuple #[.pointer none, .int .i64 3])
theorem set_nextN (A : List Nat) (u m k : Nat) (hA : A.length = k) : (A ++ List.replicate (m + 1) 0).set k u = A ++ [u] ++ List.replicate m 0 := by
  subst hA
  rw [List.set_append_right _ _ (Nat.le_refl _), Nat.sub_self, List.replicate_succ, List.set_cons_zero]
  simp
theorem cu_tail (c r t t' : Nat) (h : List Nat) (b : Bool) : (cuF c r t h b).set 2 (.int .u64 (t' : Int)) = cuF c r t' h b := rfl
theorem cu_cl (c r t : Nat) (h : List Nat) (b b' : Bool) (h8 : h.length = 8) : (cuF c r t h b).set 11 (.bool b') = cuF c r t h b' := by
  unfold cuF
  rw [List.set_append_right _ _ (by simp [h8])]
  simp [h8]
theorem cu_head (c r t : Nat) (h : List Nat) (b : Bool) (k x : Nat) (hk : k < h.length) : (cuF c r t h b).set (3 + k) (.int .u64 (x : Int)) = cuF c r t (h.set k x) b := by
  unfold cuF
  rw [List.set_append_left _ _ (by simp; omega), List.set_append_right _ _ (by simp)]
  simp [List.map_set]
theorem rgLoadNo (k c r : Int) (s : Value) (t : Int) (cl : Bool) (Ah : Option Addr) (nh ch : Nat) (As : Option Addr) (ns cs : Nat) (w : World) (h : mayB k c r = false) :
    Calls Try.prog 15 #[.agg #[.int .i64 k, .int .i64 c, .int .i64 r], .agg #[.int .u64 t, .slice Ah nh ch, .bool cl, .slice As ns cs]] w fun e w' => e = .returned (.tuple #[.pointer none, .int .i64 1]) ∧ Below w.heap.size w w' := by
  have hb0 := (Below.refl w.heap.size w).alloc (Nat.le_refl _) (.cells #[.int .i64 k, .int .i64 c, .int .i64 r] 23)
  have hb1 := hb0.alloc (by simp) (.cells #[.int .u64 t, .slice Ah nh ch, .bool cl, .slice As ns cs] 42)
  have HN := Lib.hid (fun w => rgNewNo k c r w h)
  have HB := Lib.hid hb1
  clear h hb0 hb1
  go_enter Try.func15, Try.ntmps15
  go_wp2_with fail
  refine (HN.out _).mono ?_
  rintro e w1 ⟨rfl, hb1⟩
  have hbw := HB.out.trans (hb1.mono HB.out.size)
  clear hb1
  go_wp2
  go_ret2
  exact ⟨rfl, hbw⟩
set_option maxHeartbeats 4000000 in
set_option maxRecDepth 100000 in
theorem rgLoad (k : Int) (cap rd t : Nat) (cl : Bool) (hs : List Nat) (L : List Sl) (Ah : Option Addr) (nh ch : Nat) (As : Option Addr) (ns cs : Nat) (w : World) (h1 : 1 ≤ cap) (h2 : cap ≤ 64) (h3 : 1 ≤ rd) (h4 : rd ≤ 8) (hk : k = 1 ∧ rd = 1 ∨ k = 2)
    (hq : SeqAt w (.slice Ah nh ch) (cellsH hs)) (hsl : SeqS w 3 (.slice As ns cs) ns (rowsOf slF L)) (hin : ∀ x ∈ L, slIn x) :
    Calls Try.prog 15 #[.agg #[.int .i64 k, .int .i64 cap, .int .i64 rd], .agg #[.int .u64 t, .slice Ah nh ch, .bool cl, .slice As ns cs]] w fun e w' => Below w.heap.size w w' ∧ RLoadPost w cap rd t cl hs L e w' := by
  have hnh : nh = hs.length := by
    obtain ⟨A', c', e, _⟩ := hq
    injection e with e1 e2 e3
    rw [e2]; unfold cellsH; rw [List.length_map]
  subst hnh
  have hb0 := (Below.refl w.heap.size w).alloc (Nat.le_refl _) (.cells #[.int .i64 k, .int .i64 (cap : Int), .int .i64 (rd : Int)] 23)
  have hb1 := hb0.alloc (by simp) (.cells #[.int .u64 (t : Int), .slice Ah hs.length ch, .bool cl, .slice As ns cs] 42)
  have li := (Lies.made w 23 #[.int .i64 k, .int .i64 (cap : Int), .int .i64 (rd : Int)]).alloc (.cells #[.int .u64 (t : Int), .slice Ah hs.length ch, .bool cl, .slice As ns cs] 42)
  have ls := Lies.made (w.alloc (.cells #[.int .i64 k, .int .i64 (cap : Int), .int .i64 (rd : Int)] 23)) 42 #[.int .u64 (t : Int), .slice Ah hs.length ch, .bool cl, .slice As ns cs]
  have hz : (w.alloc (.cells #[.int .i64 k, .int .i64 (cap : Int), .int .i64 (rd : Int)] 23)).heap.size = w.heap.size + 1 := by simp
  rw [hz] at ls
  have HN := Lib.hid (fun w => rgNew k cap rd w h1 h2 h3 h4 hk)
  have hz2 : ((w.alloc (.cells #[.int .i64 k, .int .i64 (cap : Int), .int .i64 (rd : Int)] 23)).alloc (.cells #[.int .u64 (t : Int), .slice Ah hs.length ch, .bool cl, .slice As ns cs] 42)).heap.size = w.heap.size + 2 := by simp
  have HZ2 := Lib.hid hz2
  have HB := Lib.hid hb1
  have LI := Lib.hid li
  have LS := Lib.hid ls
  have HQ := Lib.hid (hq.later_ hb1)
  have HSL := Lib.hid (hsl.later hb1)
  have HIN := Lib.hid hin
  have HQ0 := Lib.hid hq
  clear hb0 hb1 li ls hz hz2 hq hsl hin hk
  go_enter Try.func15, Try.ntmps15
  go_wp2_with fail
  refine (HN.out _).mono ?_
  rintro e w1 ⟨g, rfl, hg, hr1, hb1⟩
  have li := LI.out.below hb1 (by rw [HZ2.out]; omega)
  have ls := LS.out.below hb1 (by rw [HZ2.out]; omega)
  rw [HZ2.out] at hg
  have hbw := HB.out.trans (hb1.mono HB.out.size)
  have hq1 := HQ.out.later_ hb1
  have hsl1 := HSL.out.later hb1
  have i1 := (li.cell 1).trans (show _ = some (Value.int .i64 (cap : Int)) from rfl)
  have i2 := (li.cell 2).trans (show _ = some (Value.int .i64 (rd : Int)) from rfl)
  have s3 := (ls.cell 3).trans (show _ = some (Value.slice As ns cs) from rfl)
  have HL := Lib.hid (slotsLoad cap rd _ ns L w1 h1 h2 h3 h4 hsl1 HIN.out)
  have HQ1 := Lib.hid hq1
  have HR1 := Lib.hid hr1
  have HBW := Lib.hid hbw
  have LI1 := Lib.hid li
  have LS1 := Lib.hid ls
  clear hb1 hq1 hsl1 hr1 hbw li ls HB LI LS HQ HSL HN HZ2 HIN
  go_wp2_with fail
  refine HL.out.mono ?_
  rintro e w2 ⟨hb2, hp⟩
  have hli := LI1.out.below hb2 LI1.out.lt
  have hls := LS1.out.below hb2 LS1.out.lt
  have hbw := HBW.out.trans (hb2.mono HBW.out.size)
  have i2 := (hli.cell 2).trans (show _ = some (Value.int .i64 (rd : Int)) from rfl)
  have s1 := (hls.cell 1).trans (show _ = some (Value.slice Ah hs.length ch) from rfl)
  unfold LoadPost at hp
  by_cases hlb : loadB cap rd L = true
  · rw [if_pos hlb] at hp
    obtain ⟨rfl, hs2⟩ := hp
    have hcl : cap = L.length := by unfold loadB at hlb; simp only [Bool.and_eq_true, decide_eq_true_eq] at hlb; exact hlb.1.symm
    have HLB := Lib.hid hlb
    clear hlb HL
    by_cases hlr : hs.length = rd
    · have e1 : ((hs.length : Int) != (rd : Int)) = false := by rw [hlr]; simp
      have hsok := hs2.ok
      obtain ⟨M, m1, m2, m3⟩ := hs2
      have hr2 := HR1.out.later hb2
      obtain ⟨hth, hsw⟩ := sl_swap hr2.2 m1 m2
      have hol : (slObj rd L M).length = 194 := by rw [slObj_length, m1]
      have hone := all_oneCell_toArray (slObj_one rd L M)
      have hpl : ([] ++ cuR (newR cap rd)).length = 12 := rfl
      rw [hpl] at hth hsw
      have hth : w2.there g 12 (slObj rd L M).length := hth
      have hsw : SlAt (w2.setCells g 12 (slObj rd L M)) g 83 ([] ++ cuR (newR cap rd)) [] rd L := hsw
      rw [List.nil_append, List.append_nil] at m3
      have hra : w2.rangeAt w1.heap.size 0 (slObj rd L M) := fun j v hv => by
        rw [Nat.zero_add, m3.cell j, List.getElem?_toArray, hv]
      have hk3 : Kept (oneRow g) w2 (w2.setCells g 12 (slObj rd L M)) := kept_cells _ _ _
      have hraw : RgRaw (w2.setCells g 12 (slObj rd L M)) g 83 [] [] ⟨cap, rd, 0, [0, 0, 0, 0, 0, 0, 0, 0], false, L⟩ := ⟨rfl, hsw⟩
      have hls3 := hls.kept hk3 (fun (e : w.heap.size + 1 = g) => by omega)
      have hb3 := hbw.trans (hk3.below hbw.size (fun j hj (e : j = g) => by omega))
      generalize slObj rd L M = cs0 at *
      have hsi : (Try.prog.info? 81).map (·.size) = some cs0.length := by rw [hol]; exact slInfo
      have hsi2 : (Try.prog.info? 81).map (·.size) = some cs0.toArray.size := by rw [List.size_toArray, hol]; exact slInfo
      have hth2 : w2.there g 12 cs0.toArray.size := by rw [List.size_toArray]; exact hth
      have HTH := Lib.hid hth2
      have HRA := Lib.hid hra
      have HONE := Lib.hid hone
      have HSI := Lib.hid hsi
      have HSI2 := Lib.hid hsi2
      have HRAW := Lib.hid hraw
      have HLS3 := Lib.hid hls3
      have HB3 := Lib.hid hb3
      have HLR := Lib.hid hlr
      have hrd8 : hs.length ≤ 8 := by omega
      clear hr2 hth hsw hol hone hpl m1 m2 m3 hra hk3 hraw hls3 hb3 hsi hsi2 hth2 hli hls hb2 hlr HQ1 HR1 LI1 LS1 HBW hbw hcl hsok
      go_wp2_with (first | refine wpList_load_mid rfl 81 _ rfl w1.heap.size 0 rfl cs0 _ HRA.out slUnder rfl HSI.out ?_ | refine wpList_store_mid rfl 81 _ _ rfl g 12 cs0.toArray rfl rfl HTH.out HSI2.out HONE.out ?_)
      clear HTH HRA HONE HSI HSI2 i1 i2 s1 s3
      have HRAW : Hid (RgRaw (w2.setCells g 12 cs0.toArray.toList) g 83 [] [] ⟨cap, rd, 0, [0, 0, 0, 0, 0, 0, 0, 0], false, L⟩) := HRAW
      have HLS3 : Hid (Lies (w2.setCells g 12 cs0.toArray.toList) (w.heap.size + 1) 42 #[.int .u64 (t : Int), .slice Ah hs.length ch, .bool cl, .slice As ns cs]) := HLS3
      have HB3 : Hid (Below w.heap.size w (w2.setCells g 12 cs0.toArray.toList)) := HB3
      generalize w2.setCells g 12 cs0.toArray.toList = w3 at *
      have s0 := (HLS3.out.cell 0).trans (show _ = some (Value.int .u64 (t : Int)) from rfl)
      have s2 := (HLS3.out.cell 2).trans (show _ = some (Value.bool cl) from rfl)
      have s1 := (HLS3.out.cell 1).trans (show _ = some (Value.slice Ah hs.length ch) from rfl)
      have f2 := HRAW.out.free 2
      have f11 := HRAW.out.free 11
      obtain ⟨c0, c1, c2, c3⟩ := HRAW.out.cells
      simp only [List.length_nil, Nat.zero_add] at c0 c1 c2 c3
      have hgl := HRAW.out.lt
      have rA := ((HRAW.out.drewN 1).put (k := 2) (u := .int .u64 (t : Int)) (R' := ⟨cap, rd, t, [0, 0, 0, 0, 0, 0, 0, 0], false, L⟩) (by decide) rfl rfl rfl rfl).put (k := 11) (u := .bool cl) (R' := ⟨cap, rd, t, [0, 0, 0, 0, 0, 0, 0, 0], cl, L⟩) (by decide) rfl rfl rfl rfl
      have rB := ((HRAW.out.drewN 1).put (k := 11) (u := .bool cl) (R' := ⟨cap, rd, 0, [0, 0, 0, 0, 0, 0, 0, 0], cl, L⟩) (by decide) rfl rfl rfl rfl).put (k := 2) (u := .int .u64 (t : Int)) (R' := ⟨cap, rd, t, [0, 0, 0, 0, 0, 0, 0, 0], cl, L⟩) (by decide) rfl rfl rfl rfl
      simp only [List.length_nil, Nat.zero_add] at rA rB
      have lA := (HLS3.out.drewN 1).kept ((Kept.put (w3.drewN 1) g 2 (.int .u64 (t : Int))).trans (Kept.put _ g 11 (.bool cl)) (fun _ _ h => h)) (fun (e : w.heap.size + 1 = g) => by omega)
      have lB := (HLS3.out.drewN 1).kept ((Kept.put (w3.drewN 1) g 11 (.bool cl)).trans (Kept.put _ g 2 (.int .u64 (t : Int))) (fun _ _ h => h)) (fun (e : w.heap.size + 1 = g) => by omega)
      have bA := (below_drewN HB3.out 1).trans (((Kept.put (w3.drewN 1) g 2 (.int .u64 (t : Int))).trans (Kept.put _ g 11 (.bool cl)) (fun _ _ h => h)).below HB3.out.size (fun j hj (e : j = g) => by omega))
      have bB := (below_drewN HB3.out 1).trans (((Kept.put (w3.drewN 1) g 11 (.bool cl)).trans (Kept.put _ g 2 (.int .u64 (t : Int))) (fun _ _ h => h)).below HB3.out.size (fun j hj (e : j = g) => by omega))
      have HA : Hid (RgRaw _ g 83 [] [] _ ∧ Lies _ (w.heap.size + 1) _ _ ∧ Below w.heap.size w _) := ⟨rA, lA, bA⟩
      have HBB : Hid (RgRaw _ g 83 [] [] _ ∧ Lies _ (w.heap.size + 1) _ _ ∧ Below w.heap.size w _) := ⟨rB, lB, bB⟩
      clear rA rB lA lB bA bB HB3 HRAW HLS3 c0 c1 s1
      try simp only [Act.put, List.setIfInBounds_toArray, List.set_cons_zero, List.set_cons_succ]
      go_wp2_with fail
      go_cut [] (fun wx => RgRaw wx g 83 [] [] ⟨cap, rd, t, [0, 0, 0, 0, 0, 0, 0, 0], cl, L⟩ ∧ Lies wx (w.heap.size + 1) 42 #[.int .u64 (t : Int), .slice Ah hs.length ch, .bool cl, .slice As ns cs] ∧ Below w.heap.size w wx)
      case first =>
        go_region_with (fail)
        all_goals
          go_wp2_with fail
          go_meet
          first
            | exact HA.out
            | exact HBB.out
      case rest =>
        obtain ⟨hraw, hls, hb⟩ := hcut
        have s1 := (hls.cell 1).trans (show _ = some (Value.slice Ah hs.length ch) from rfl)
        have hsl := hls.lt
        have HRAW := Lib.hid hraw
        have HB := Lib.hid hb
        clear hraw hls hb HA HBB c2 c3 f2 f11 s0 s2 hgl
        go_wp2
        clear s1 hsl
        go_loopw [60] (fun u wr => ∃ k : Nat, k ≤ hs.length ∧ u = .int .i64 k ∧ RgRaw wr g 83 [] [] ⟨cap, rd, t, hs.take k ++ List.replicate (8 - k) 0, cl, L⟩ ∧ Below w.heap.size w wr) (fun u _ => hs.length - (intOf u).toNat)
        case atStart => exact ⟨0, by omega, rfl, HRAW.out, HB.out⟩
        case round =>
          clear HRAW HB
          obtain ⟨k, hk, rfl, hraw, hb⟩ := hrel
          by_cases hlt : k < hs.length
          · have hki : (k : Int) < (hs.length : Int) := by omega
            have hk8 : (k : Int) < 8 := by omega
            obtain ⟨x, hx⟩ : ∃ x, hs[k]? = some x := ⟨_, List.getElem?_eq_getElem hlt⟩
            obtain ⟨b, off, rfl, hbl, hc⟩ := HQ0.out.get hb (k := k) (u := .int .u64 (x : Int)) (by unfold cellsH; rw [List.getElem?_map, hx]; rfl)
            have hl2 : (hs.take k).length = k := by rw [List.length_take]; omega
            have hset : (hs.take k ++ List.replicate (8 - k) 0).set k x = hs.take (k + 1) ++ List.replicate (8 - (k + 1)) 0 := by
              rw [show 8 - k = (8 - (k + 1)) + 1 by omega, set_nextN _ _ _ _ hl2, List.take_add_one, hx]; rfl
            have hl8 : (hs.take k ++ List.replicate (8 - k) 0).length = 8 := by rw [List.length_append, hl2, List.length_replicate]; omega
            have h0 : (hs.take k ++ List.replicate (8 - k) 0)[k]? = some 0 := by
              rw [List.getElem?_append_right (by omega), hl2, Nat.sub_self, List.getElem?_replicate, if_pos (by omega)]
            have hd := hraw.head h0
            have hf := hraw.free (3 + k)
            have hgl := hraw.lt
            have hr2 := hraw.put (k := 3 + k) (u := .int .u64 (x : Int)) (R' := ⟨cap, rd, t, hs.take (k + 1) ++ List.replicate (8 - (k + 1)) 0, cl, L⟩) (by omega) (by simp only; rw [← hset, List.length_set]; exact hl8) rfl rfl (by
              unfold cuR; simp only
              rw [cu_head _ _ _ _ _ _ _ (by omega), hset])
            simp only [List.length_nil, Nat.zero_add] at hd hr2
            have hb2 := hb.setCell (p := ⟨g, 3 + k, none⟩) (show w.heap.size ≤ g by omega) (.int .u64 (x : Int))
            have HR2 := Lib.hid hr2
            have HB2 := Lib.hid hb2
            clear hraw hb hx hl2 hset hl8 h0 hr2 hb2 HLR
            go_wp2
            go_roundw
            case rel => exact ⟨k + 1, by omega, by go_num, HR2.out, HB2.out⟩
            case measure => simp [intOf]; omega
          · obtain rfl : k = hs.length := by omega
            rw [List.take_of_length_le (Nat.le_refl _)] at hraw
            have hraw : RgRaw wr g 83 [] [] (loadR cap rd t cl hs L) := hraw
            have hLD : loadsB cap rd t cl hs L = (cursB (loadR cap rd t cl hs L) && slotsB (loadR cap rd t cl hs L)) := by
              unfold loadsB; rw [HLB.out, HLR.out, decide_eq_true rfl, Bool.true_and, Bool.true_and]
            have HC := Lib.hid (rgCursorsRight hraw rfl)
            have HS := Lib.hid (fun n => rgSlotsRight (hraw.drewN n) rfl)
            have HRAW := Lib.hid hraw
            have HB := Lib.hid hb
            clear hraw hb HQ0 HLB HLR
            obtain ⟨cb, hcb⟩ : ∃ cb, cursB (loadR cap rd t cl hs L) = cb := ⟨_, rfl⟩
            obtain ⟨sb, hsb⟩ : ∃ sb, slotsB (loadR cap rd t cl hs L) = sb := ⟨_, rfl⟩
            rw [hcb] at HC
            rw [hsb] at HS
            rw [hcb, hsb] at hLD
            have HLD := Lib.hid hLD
            clear hLD hcb hsb
            cases cb
            · go_wp2_with fail
              refine HC.out.mono ?_
              rintro e w4 ⟨rfl, n4, hw4⟩
              have hb4 : Below w.heap.size w w4 := by rw [hw4]; exact below_drewN HB.out n4
              clear hw4
              go_wp2
              go_ret2
              exact ⟨hb4, by unfold RLoadPost; rw [HLD.out, if_neg (by simp)]; rfl⟩
            · go_wp2_with fail
              refine HC.out.mono ?_
              rintro e w4 ⟨rfl, n4, hw4⟩
              have hb4 : Below w.heap.size w w4 := by rw [hw4]; exact below_drewN HB.out n4
              have hr4 : RgRaw w4 g 83 [] [] (loadR cap rd t cl hs L) := by rw [hw4]; exact HRAW.out.drewN n4
              have hs4 := HS.out n4
              rw [← hw4] at hs4
              have HS4 := Lib.hid hs4
              have HR4 := Lib.hid hr4
              clear hw4 hs4 hr4 HS HRAW HC HB
              go_wp2_with fail
              refine HS4.out.mono ?_
              rintro e w5 ⟨rfl, hb5⟩
              have hbz := hb4.trans (hb5.mono hb4.size)
              have HR5 := Lib.hid (HR4.out.later hb5)
              clear hb4 hb5 HR4 HS4
              cases sb
              · go_wp2
                go_ret2
                exact ⟨hbz, by unfold RLoadPost; rw [HLD.out, if_neg (by simp)]; rfl⟩
              · go_wp2
                go_ret2
                exact ⟨hbz, by unfold RLoadPost; rw [HLD.out, if_pos (by decide)]; exact ⟨g, by omega, rfl, loadR_ok (HLD.out.trans rfl) HR5.out.2.ok, HR5.out.2⟩⟩
    · have e1 : ((hs.length : Int) != (rd : Int)) = true := by rw [bne_iff_ne]; omega
      have HF : Hid (loadsB cap rd t cl hs L = false) := by show _ = _; unfold loadsB; rw [decide_eq_false hlr, Bool.false_and, Bool.and_false]
      clear hlr hs2 hli hls
      go_wp2
      go_ret2
      exact ⟨hbw, by unfold RLoadPost; rw [HF.out, if_neg (by decide)]; rfl⟩
  · rw [if_neg hlb] at hp
    subst hp
    have HF : Hid (loadsB cap rd t cl hs L = false) := by show _ = _; unfold loadsB; rw [show loadB cap rd L = false by simpa using hlb, Bool.false_and]
    clear hlb hli hls HL
    go_wp2
    go_ret2
    exact ⟨hbw, by unfold RLoadPost; rw [HF.out, if_neg (by decide)]; rfl⟩
end Go.Proofs.Ytahojmioonpodaa
