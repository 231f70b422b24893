import Derived.Test.YtebgcehcnenjiaaDoorCrc
namespace Go.Proofs.YtebgcehcnenjiaaDoor
open Go.RowKit
set_option linter.unusedVariables false
set_option linter.unusedSimpArgs false
def entries (k : Nat) : List Value := (List.range k).map fun i => .int .u32 (entry i : Int)
def tab : List Value := entries 256
theorem entries_length (k : Nat) : (entries k).length = k := by simp [entries]
theorem entries_next (k : Nat) : entries k ++ [.int .u32 (entry k : Int)] = entries (k + 1) := by simp [entries, List.range_succ]
theorem results_cell_mid {P : Program} {fn : Func} {p : Tmp} {ty : TypeId} (h : fn.results = #[.cell p ty]) (tmps : Array Value) (w : World) (g : Nat) (cs : List Value) (d : TypeDesc)
    (hp : tmps.getD p undef = .pointer (some ⟨g, 0, none⟩)) (hc : w.rangeAt g 0 cs)
    (hu : P.underlying ty = some d) (hd : d.isRow = true) (hi : (P.info? ty).map (·.size) = some cs.length) :
    (results fn tmps).run P w = .ok (.agg cs.toArray) w := by
  have hp' : tmps[p]?.getD undef = .pointer (some ⟨g, 0, none⟩) := by simpa using hp
  simp [results, h, hp', asAddr, run_loadVar_mid w g 0 ty cs d hc hu hd hi]
theorem below_cells {B b : Nat} {a : World} (hb : B ≤ b) : ∀ (vs : List Value) (o : Nat) (w : World), Below B a w → Below B a (w.setCells b o vs) := by
  intro vs
  induction vs with
  | nil => intro o w h; exact h
  | cons v vs ih => intro o w h; exact ih _ _ (h.setCell (p := ⟨b, o, none⟩) hb v)
set_option maxRecDepth 100000 in
theorem crcTable (w : World) : Calls Tryd.prog 39 #[] w fun e w' => e = .returned (.agg tab.toArray) ∧ Below w.heap.size w w' := by
  obtain ⟨zs, hzs⟩ : ∃ zs : Array Value, zs = Array.replicate 256 (.int .u32 0) := ⟨_, rfl⟩
  have hz := zero23
  rw [← hzs] at hz
  have hzl : zs.toList = List.replicate 256 (.int .u32 0) := by rw [hzs, Array.toList_replicate]
  have hzn : zs.size = 256 := by rw [hzs, Array.size_replicate]
  have HZL := Lib.hid hzl
  clear hzs hzl
  go_enter Tryd.func39, Tryd.ntmps39
  go_wp2_with fail
  have ho0 := World.ownsRow_lit (base := w.heap.size) (e := 72) (size := 1) w zs 256 (Nat.le_refl _) (by unfold maxLen; omega) (by omega)
  have ho1 := World.ownsRow_lit (base := w.heap.size) (e := 72) (size := 1) (w.alloc (.cells zs 72)) zs 256 (by simp) (by unfold maxLen; omega) (by omega)
  have ho0' := ho0.alloc (.cells zs 72)
  have hb1 : Below w.heap.size w ((w.alloc (.cells zs 72)).alloc (.cells zs 72)) := ((Below.refl _ _).alloc (Nat.le_refl _) _).alloc (by simp) _
  rw [HZL.out] at ho0' ho1
  have hgs : (w.alloc (.cells zs 72)).heap.size = w.heap.size + 1 := by simp
  clear ho0 HZL
  rw [hgs] at ho1
  generalize (w.alloc (.cells zs 72)).alloc (.cells zs 72) = w1 at *
  clear hz hgs
  go_loopw [5] (fun c wr => ∃ k : Nat, k ≤ 256 ∧ c = .int .i64 k ∧ wr.ownsRow w.heap.size 72 1 (.slice (some ⟨w.heap.size + 1, 0, none⟩) 256 256) 256 (entries k ++ List.replicate (256 - k) (.int .u32 0)) ∧
      wr.ownsRow w.heap.size 72 1 (.slice (some ⟨w.heap.size, 0, none⟩) 256 256) 256 (List.replicate (256 - 0) (.int .u32 0)) ∧ Below w.heap.size w wr)
    (fun c _ => 256 - (intOf c).toNat)
  case atStart => exact ⟨0, by omega, rfl, ho1, ho0', hb1⟩
  case round =>
    clear ho1 ho0' hb1
    obtain ⟨k, hk, rfl, ho1, ho0, hb⟩ := hrel
    by_cases hlt : k < 256
    · have hki : (k : Int) < 256 := by omega
      have HO1 := Lib.hid ho1
      have HO0 := Lib.hid ho0
      have hfree := owns_free ho1 hlt
      have hrep : 256 - k = 256 - (k + 1) + 1 := by omega
      have hcell : wr.cell? ⟨w.heap.size + 1, k, none⟩ = some (.int .u32 0) := owns_cell ho1 (by
        rw [List.getElem?_append_right (by rw [entries_length]; omega), entries_length, Nat.sub_self, hrep, List.replicate_succ]; rfl)
      clear ho1 ho0 hrep
      go_wp2_with fail
      go_loopw [3, 10] (fun n c wq => ∃ j : Nat, j ≤ 8 ∧ c = .int .i64 j ∧ n = .int .u32 (halves j k) ∧ wq = wr)
        (fun _ c _ => 8 - (intOf c).toNat)
      case atStart => exact ⟨0, by omega, rfl, rfl, rfl⟩
      case round =>
        obtain ⟨j, hj, rfl, rfl, rfl⟩ := hrel
        by_cases hjl : j < 8
        · have hji : (j : Int) < 8 := by omega
          have hm := halves_lt j k (by omega)
          have hnx : halves (j + 1) k = half (halves j k) := rfl
          have HNX := Lib.hid hnx
          generalize halves j k = m at *
          clear hnx
          have eA := and_u32 m 1 hm (by decide)
          rw [Nat.and_one_is_mod] at eA
          have eX := xor_u32 (m / 2) 3988292384 (by omega) (by decide)
          have HM := Lib.hid hm
          obtain ⟨mi, hmi⟩ : ∃ mi : Int, mi = m := ⟨_, rfl⟩
          have eD : ((m / 2 : Nat) : Int) = mi / 2 := by omega
          rw [eD] at eX
          rw [← hmi] at eA ⊢
          have hm3 : mi ≤ 4294967295 := by omega
          have hm4 : 0 ≤ mi := by omega
          have HMI := Lib.hid hmi
          have EX := Lib.hid eX
          have ED := Lib.hid eD
          by_cases hodd : m % 2 = 1
          · have eB : (bits .and .u32 mi 1 == 1) = true := by
              rw [beq_iff_eq]; exact eA.trans (by omega)
            have hh : half m = (m / 2) ^^^ 3988292384 := by unfold half; rw [if_pos hodd]
            have HH := Lib.hid hh
            clear hmi hm eX eD eA hh hodd
            go_wp2_with fail
            go_roundw
            case rel => exact ⟨j + 1, by omega, by go_num, by rw [HNX.out, HH.out, ← EX.out]; rfl, trivial⟩
            case measure => simp [intOf]; omega
          · have eB : (bits .and .u32 mi 1 == 1) = false := by
              rw [beq_eq_false_iff_ne]; exact fun h => by rw [show (bits .and .u32 mi 1) = ((m % 2 : Nat) : Int) from eA] at h; omega
            have hh : half m = m / 2 := by unfold half; rw [if_neg hodd]
            have HH := Lib.hid hh
            clear hmi hm eX eD eA hh hodd
            go_wp2_with fail
            go_roundw
            case rel => exact ⟨j + 1, by omega, by go_num, by rw [HNX.out, HH.out, ED.out], trivial⟩
            case measure => simp [intOf]; omega
        · obtain rfl : j = 8 := by omega
          have hset := owns_set (u := .int .u32 (entry k)) HO1.out hlt
          rw [show 256 - k = 256 - (k + 1) + 1 by omega, set_next _ _ _ _ _ (entries_length k), entries_next] at hset
          have hfar := owns_kept HO0.out (Kept.put wr (w.heap.size + 1) k (.int .u32 (entry k))) (fun r cur hr _ h => by simp [Value.ownBlock] at hr; unfold oneRow at h; omega)
          have HSET := Lib.hid hset
          have HFAR := Lib.hid hfar
          have hbn : Below w.heap.size w (wr.setCell ⟨w.heap.size + 1, k, none⟩ (.int .u32 (entry k))) := hb.setCell (p := ⟨w.heap.size + 1, k, none⟩) (by show w.heap.size ≤ w.heap.size + 1; omega) _
          have HBN := Lib.hid hbn
          have hent : halves 8 k = entry k := rfl
          rw [hent]
          clear hset hfar hbn hent
          go_wp2_with fail
          go_roundw
          case rel => exact ⟨k + 1, by omega, by go_num, HSET.out, HFAR.out, HBN.out⟩
          case measure => simp [intOf]; omega
    · obtain rfl : k = 256 := by omega
      rw [Nat.sub_self, List.replicate_zero, List.append_nil] at ho1
      have hr : wr.rangeAt (w.heap.size + 1) 0 tab := fun j v hv => by
        have := owns_cell ho1 (k := j) (u := v) hv
        rwa [Nat.zero_add]
      have hone : tab.toArray.all (·.oneCell') = true := all_oneCell_toArray (fun v hv => by
        obtain ⟨i, _, rfl⟩ := List.mem_map.1 hv; rfl)
      have htl : tab.length = 256 := entries_length 256
      have ht : wr.there w.heap.size 0 tab.toArray.size := fun j hj => by
        rw [List.size_toArray, htl] at hj
        have := owns_cell ho0 (k := j) (u := .int .u32 0) (List.getElem?_replicate_of_lt hj)
        rw [Nat.zero_add, this]
        exact ⟨rfl, owns_free ho0 hj⟩
      have hi1 : (Tryd.prog.info? 72).map (·.size) = some tab.length := by rw [htl]; exact info23
      have hi2 : (Tryd.prog.info? 72).map (·.size) = some tab.toArray.size := by rw [List.size_toArray, htl]; exact info23
      clear ho1 ho0 htl
      obtain ⟨T, hTT⟩ : ∃ T, T = tab := ⟨_, rfl⟩
      rw [← hTT] at hi1 hi2 ht hr hone
      have HTT := Lib.hid hTT
      clear hTT
      have HI1 := Lib.hid hi1
      have HI2 := Lib.hid hi2
      have HT := Lib.hid ht
      have HR := Lib.hid hr
      have HONE := Lib.hid hone
      clear hi1 hi2 ht hr hone
      go_wp2_with (first | refine wpList_load_mid rfl 72 _ rfl (w.heap.size + 1) 0 rfl T _ HR.out under23 rfl HI1.out ?_ | refine wpList_store_mid rfl 72 _ _ rfl w.heap.size 0 T.toArray rfl rfl HT.out HI2.out HONE.out ?_)
      have hbz : Below w.heap.size w (wr.setCells w.heap.size 0 T) := below_cells (Nat.le_refl _) T 0 wr hb
      have hrz : (wr.setCells w.heap.size 0 T).rangeAt w.heap.size 0 T := World.rangeAt_setCells_same _ _ _ _ (by have := HT.out; rwa [List.size_toArray] at this)
      generalize wr.setCells w.heap.size 0 T = wz at *
      refine bodyPost_ret (v := .agg T.toArray) (results_cell_mid Tryd.results39 _ _ w.heap.size T _ rfl hrz under23 rfl HI1.out) rfl ⟨by rw [HTT.out], hbz⟩
end Go.Proofs.YtebgcehcnenjiaaDoor
