/-
  The document's bytes and Written (layer 9).
-/
import Derived.Test.YtebgcehcnenjiaaDoorCpr
import Derived.Test.YtebgcehcnenjiaaDoorRfn2
import Derived.Test.YtebgcehcnenjiaaDoorCopy2
import Derived.Test.YtebgcehcnenjiaaDoorRefprint
namespace Go.Proofs.YtebgcehcnenjiaaDoor
open Go.RowKit
set_option linter.unusedVariables false
set_option linter.unusedSimpArgs false
def intZ (zs : List Int) : List Value := zs.map (Value.int .i64)
theorem intZ_get {zs : List Int} {i : Nat} {z : Int} (h : zs[i]? = some z) : (intZ zs)[i]? = some (.int .i64 z) := by unfold intZ; rw [List.getElem?_map, h]; rfl
def zE (zs : List Int) (i : Nat) : List UInt8 := (zs.take i).map bI
theorem bI_push {zs : List Int} {i : Nat} {z : Int} (h : zs[i]? = some z) (h0 : 0 ≤ z) (h1 : z ≤ 255) : cellsB (zE zs i) ++ [.int .u8 z] = cellsB (zE zs (i + 1)) := by
  unfold zE
  rw [List.take_add_one, h, Option.toList_some, List.map_append]
  unfold cellsB
  rw [List.map_append]
  show _ = _ ++ [Value.int .u8 ((bI z).toNat : Int)]
  rw [bI_cast h0 h1]
set_option maxHeartbeats 4000000 in
set_option maxRecDepth 100000 in
theorem rfBytes (zs : List Int) (g : Nat) (n : Nat) (w : World) (hn : zs.length = n) (h : Lies w g 3 (intZ zs).toArray) (hz : ∀ z ∈ zs, 0 ≤ z ∧ z ≤ 255) (hl : zs.length ≤ 100) :
    Calls Tryd.prog 41 #[.slice (some ⟨g, 0, none⟩) n n] w fun e w' => e = .returned (.string (textB (zs.map bI))) ∧ Below w.heap.size w w' := by
  subst hn
  have HL := Lib.hid h
  have HZ := Lib.hid hz
  clear h hz
  go_enter Tryd.func41, Tryd.ntmps41
  go_wp2_with fail
  go_loopw [4, 3] (fun u o wr => ∃ i : Nat, i ≤ zs.length ∧ u = .int .i64 i ∧ Hid (wr.ownsRow w.heap.size 5 1 o i (cellsB (zE zs i))) ∧ Hid (Below w.heap.size w wr)) (fun u _ _ => zs.length - (intOf u).toNat)
  case atStart => exact ⟨0, by omega, rfl, World.ownsRow_nil _ _ _ _, Below.refl _ _⟩
  case round =>
    obtain ⟨i, hi, rfl, hO, hb⟩ := hrel
    obtain ⟨A9, c9, rfl⟩ := own_slice hO.out
    by_cases hlt : i < zs.length
    · have hii : (i : Int) < (zs.length : Int) := by omega
      obtain ⟨z, hzi⟩ : ∃ z, zs[i]? = some z := ⟨_, List.getElem?_eq_getElem hlt⟩
      obtain ⟨z0, z1⟩ := HZ.out z (List.mem_of_getElem? hzi)
      have hl2 := HL.out.below hb.out HL.out.lt
      have q0 : wr.cell? ⟨g, i, none⟩ = some (.int .i64 z) := by rw [hl2.cell, List.getElem?_toArray, intZ_get hzi]
      have ql := hl2.lt
      have n1 : IntKind.u8.wrap z = z := by rw [IntKind.wrap_u8]; omega
      have HP := Lib.hid (bI_push hzi z0 z1)
      have hbs := hb.out.size
      clear hl2 hzi
      go_wp2_with (at_builtin; refine append_one _ (.int .u8 z) rfl (.tmp 11) (.tmp 17) 62 rfl w.heap.size 5 _ _ Tryd.underlying62 Tryd.infoU8 rfl rfl _ _ _ rfl hO.out rfl (by unfold maxLen; omega) (by omega) hbs ?_)
      intro v7 w7 ho7 hb7 _
      rw [HP.out] at ho7
      have HO7 := Lib.hid ho7
      have HB7 := Lib.hid (hb.out.trans hb7)
      clear ho7 hb7
      go_wp2
      go_roundw
      case rel => exact ⟨i + 1, by omega, by go_num, HO7, HB7⟩
      case measure => simp [intOf]; omega
    · obtain rfl : i = zs.length := by omega
      have HE : Hid (zE zs zs.length = zs.map bI) := by show _ = _; unfold zE; rw [List.take_length]
      rw [HE.out] at hO
      have hcv := convert_owned wr _ _ _ _ (by rw [List.length_map]) hO.out
      go_wp2
      go_ret
      exact ⟨rfl, hb.out⟩
end Go.Proofs.YtebgcehcnenjiaaDoor
