import Derived.Test.YtnhbeddmphlieaaBits5
namespace Go.Proofs.Ytnhbeddmphlieaa
open Go.RowKit
set_option linter.unusedVariables false
set_option linter.unusedSimpArgs false
def bytesK (l : List Bool) (k : Nat) : List UInt8 := (List.range ((l.length + 7) / 8)).map fun j => UInt8.ofNat (byteN (l.take k) j)
theorem bytesK_zero (l : List Bool) : cellsB (bytesK l 0) = List.replicate ((l.length + 7) / 8) (Value.int .u8 0) := by
  unfold bytesK cellsB
  rw [List.map_map]
  apply List.ext_getElem
  · simp
  · intro i h1 h2
    simp [byteN, bitD]
theorem bytesK_full (l : List Bool) : bytesK l l.length = packB l := by unfold bytesK packB; rw [List.take_of_length_le (Nat.le_refl _)]
theorem bytesK_length (l : List Bool) (k : Nat) : (bytesK l k).length = (l.length + 7) / 8 := by simp [bytesK]
theorem bytesK_off {l : List Bool} {k : Nat} (h : l[k]? = some false) : bytesK l (k + 1) = bytesK l k := by
  have hk : k < l.length := (List.getElem?_eq_some_iff.1 h).1
  have hl : (l.take k).length = k := by rw [List.length_take]; omega
  unfold bytesK
  refine List.map_congr_left fun j hj => ?_
  rw [take_next h]
  by_cases e : j = (l.take k).length / 8
  · subst e; rw [(byteN_near (l.take k) false).1]; simp
  · rw [byteN_far _ _ _ e]
theorem bytesK_on {l : List Bool} {k : Nat} (h : l[k]? = some true) : bytesK l (k + 1) = (bytesK l k).set (k / 8) (UInt8.ofNat (byteN (l.take k) (k / 8) + 2 ^ (7 - k % 8))) ∧ byteN (l.take k) (k / 8) + 2 ^ (7 - k % 8) < 256 := by
  have hk : k < l.length := (List.getElem?_eq_some_iff.1 h).1
  have hl : (l.take k).length = k := by rw [List.length_take]; omega
  have hn := (byteN_near (l.take k) true).1
  rw [hl] at hn
  simp only [Bool.toNat_true, Nat.one_mul] at hn
  have hlt := byteN_lt (l.take k ++ [true]) (k / 8)
  refine ⟨?_, by omega⟩
  apply List.ext_getElem?
  intro j
  rw [List.getElem?_set]
  unfold bytesK
  by_cases hj : j < (l.length + 7) / 8
  · by_cases e : k / 8 = j
    · subst e
      rw [if_pos rfl, if_pos (by simpa using hj)]
      simp only [List.getElem?_map, List.getElem?_range hj, Option.map_some]
      rw [take_next h, hn]
    · rw [if_neg e]
      simp only [List.getElem?_map, List.getElem?_range hj, Option.map_some]
      rw [take_next h, byteN_far _ _ _ (by rw [hl]; omega)]
  · rw [if_neg (by omega), List.getElem?_eq_none (by simp; omega), List.getElem?_eq_none (by simp; omega)]
set_option maxHeartbeats 2000000 in
set_option maxRecDepth 100000 in
theorem refBytes (v : Value) (l : List Bool) (w : World) (h : SeqAt w v (cellsL l)) (hl : l.length ≤ 1099511627776) :
    Calls Try.prog 13 #[v] w fun e w' => e = .returned (.string (textB (packB l))) ∧ Below w.heap.size w w' := by
  have H := Lib.hid h
  obtain ⟨A, c, rfl, h1, h2, h3⟩ := h
  rw [cellsL_length] at h1 H ⊢
  unfold maxLen at h2
  clear h3
  obtain ⟨n8, hn8⟩ : ∃ n8, n8 = (l.length + 7) / 8 := ⟨_, rfl⟩
  have hmk := run_make_row' (P := Try.prog) 24 5 (.int .u8 0) 1 Try.underlying24 Try.infoU8 rfl .i64 .i64 n8 (by omega) (by omega) w
  have ho0 := owns_made w 5 (.int .u8 0) rfl n8 (by unfold maxLen; omega)
  have hb0 : Below w.heap.size w (w.alloc (.cells (madeCells #[Value.int .u8 0] n8) 5)) := (Below.refl _ _).alloc (Nat.le_refl _) _
  have hz := bytesK_zero l
  have hfull := bytesK_full l
  have hbl := bytesK_length l
  rw [← hn8] at hz hbl
  rw [← hz] at ho0
  have hdi : ((l.length : Int) + 7) / 8 = (n8 : Int) := by omega
  have HO := Lib.hid ho0
  have HFULL := Lib.hid hfull
  have HBL := Lib.hid hbl
  have hkn : ∀ k, k < l.length → k / 8 < n8 := fun k hk => by omega
  have HKN := Lib.hid hkn
  have hn8l : n8 ≤ 1099511627776 := by omega
  clear ho0 hz hfull hbl hkn hn8
  go_enter Try.func13, Try.ntmps13
  go_wp2
  clear hmk
  generalize w.alloc (.cells (madeCells #[Value.int .u8 0] n8) 5) = w0 at *
  obtain ⟨g, hg⟩ : ∃ g, g = w.heap.size := ⟨_, rfl⟩
  have hgl : w.heap.size ≤ g := by omega
  rw [← hg] at HO ⊢
  clear hg
  go_loopw [4] (fun u wr => ∃ k : Nat, k ≤ l.length ∧ u = .int .i64 k ∧ wr.ownsRow w.heap.size 5 1 (.slice (some ⟨g, 0, none⟩) n8 n8) n8 (cellsB (bytesK l k)) ∧ Below w.heap.size w wr)
    (fun u _ => l.length - (intOf u).toNat)
  case atStart => exact ⟨0, by omega, rfl, owns_mono HO.out (by omega), hb0⟩
  case round =>
    clear HO hb0
    obtain ⟨k, hk, rfl, ho, hb⟩ := hrel
    by_cases hlt : k < l.length
    · have hki : (k : Int) < (l.length : Int) := by omega
      obtain ⟨b, hgb⟩ : ∃ b, l[k]? = some b := ⟨_, List.getElem?_eq_getElem hlt⟩
      obtain ⟨A', c', hv, _, _, hc3⟩ := H.out.later_ hb
      rw [cellsL_length] at hv
      simp only [Value.slice.injEq, true_and] at hv
      obtain ⟨rfl, rfl⟩ := hv
      obtain ⟨bb, off, rfl, c1⟩ := hc3 k _ (cellsL_get hgb)
      clear hc3
      cases b
      · have hof := bytesK_off hgb
        rw [← hof] at ho
        have HO := Lib.hid ho
        clear hof ho hgb
        go_wp2
        go_roundw
        case rel => exact ⟨k + 1, by omega, by go_num, HO.out, hb⟩
        case measure => simp [intOf]; omega
      · obtain ⟨hon, hlt8⟩ := bytesK_on hgb
        have hkn := HKN.out k hlt
        have hqi : (k : Int) / 8 = ((k / 8 : Nat) : Int) := by omega
        have hri : (k : Int) % 8 = ((k % 8 : Nat) : Int) := by omega
        have hr8 : k % 8 < 8 := Nat.mod_lt _ (by decide)
        have hcl := owns_cell ho (k := k / 8) (u := .int .u8 ((byteN (l.take k) (k / 8) : Nat) : Int)) (by
          unfold cellsB bytesK
          rw [List.getElem?_map, List.getElem?_map, List.getElem?_range (by have := HBL.out k; rw [bytesK_length] at this; omega)]
          simp only [Option.map_some]; rw [byte_val])
        have hfr := owns_free ho hkn
        have hset := owns_set (u := .int .u8 ((byteN (l.take k) (k / 8) + 2 ^ (7 - k % 8) : Nat) : Int)) ho hkn
        rw [cellsB_set _ _ _ hlt8, ← hon] at hset
        have hbn := hb.setCell (p := ⟨g, k / 8, none⟩) hgl (.int .u8 ((byteN (l.take k) (k / 8) + 2 ^ (7 - k % 8) : Nat) : Int))
        have HSET := Lib.hid hset
        have HBN := Lib.hid hbn
        clear hset hbn hgb ho hb hon
        generalize byteN (l.take k) (k / 8) = bv at *
        generalize k / 8 = q at *
        generalize k % 8 = r at *
        have hqn : (q : Int) < (n8 : Int) := by omega
        go_wp2
        go_loopw [5, 6] (fun x y wq => ∃ j : Nat, j ≤ r ∧ y = .int .i64 j ∧ x = .int .u8 (2 ^ (7 - j) : Nat) ∧ wq = wr) (fun _ y _ => r - (intOf y).toNat)
        case atStart => exact ⟨0, by omega, rfl, rfl, rfl⟩
        case round =>
          obtain ⟨j, hj, rfl, rfl, hwq⟩ := hrel
          subst hwq
          by_cases hjr : j < r
          · have hji : (j : Int) < (r : Int) := by omega
            have hjn : decide (j < r) = true := by simpa using hjr
            have hp : 2 ^ (7 - j) = 2 ^ (7 - (j + 1)) * 2 := by rw [← Nat.pow_succ]; congr 1; omega
            have hp7 : 2 ^ (7 - (j + 1)) ≤ 2 ^ 7 := Nat.pow_le_pow_right (by decide) (by omega)
            have HP := Lib.hid hp
            obtain ⟨U, hU⟩ : ∃ U, U = 2 ^ (7 - (j + 1)) := ⟨_, rfl⟩
            rw [hp, ← hU]
            rw [← hU] at hp7
            have HU := Lib.hid hU
            have hU2 : (((U * 2 : Nat) : Int)) / 2 = (U : Int) := by omega
            have hU3 : U * 2 ≤ 256 := by omega
            have hU4 : (U : Int) ≤ 128 := by omega
            clear hp hU hp7
            go_wp2
            go_roundw
            case rel => exact ⟨j + 1, by omega, by go_num, by rw [← HU.out], trivial⟩
            case measure => simp [intOf]; omega
          · obtain rfl : j = r := by omega
            have hjn : decide (j < j) = false := by simp
            have hp7 : 2 ^ (7 - j) ≤ 2 ^ 7 := Nat.pow_le_pow_right (by decide) (by omega)
            obtain ⟨U, hU⟩ : ∃ U, U = 2 ^ (7 - j) := ⟨_, rfl⟩
            rw [← hU] at HSET HBN hlt8
            rw [← hU]
            have hu8 : IntKind.u8.wrap ((bv : Int) + (U : Int)) = ((bv + U : Nat) : Int) := by rw [IntKind.wrap_u8]; omega
            clear hU hp7
            go_wp2
            go_roundw
            case rel => exact ⟨k + 1, by omega, by go_num, HSET.out, HBN.out⟩
            case measure => simp [intOf]; omega
    · obtain rfl : k = l.length := by omega
      rw [HFULL.out] at ho
      have hcv := convert_owned _ _ _ (packB l) n8 (by have := HBL.out l.length; rw [HFULL.out] at this; exact this.symm) ho
      clear ho
      go_wp2
      go_ret
      exact ⟨rfl, hb⟩
end Go.Proofs.Ytnhbeddmphlieaa
