import Derived.Test.YtahojmioonpodaaSlload2
import Derived.Test.YtahojmioonpodaaRows
namespace Go.Proofs.Ytahojmioonpodaa
open Go.RowKit
set_option linter.unusedVariables false
set_option linter.unusedSimpArgs false
theorem fold_put (cs : List Value) : ∀ (off k : Nat) (zs : Array Value), off + k + cs.length ≤ zs.size →
    ((cs.zipIdx k).foldl (fun (a : Array Value) (p : Value × Nat) => a.setIfInBounds (off + p.2) p.1) zs).toList = zs.toList.take (off + k) ++ cs ++ zs.toList.drop (off + k + cs.length) := by
  induction cs with
  | nil => intro off k zs h; simp
  | cons c cs ih =>
    intro off k zs h
    simp only [List.length_cons] at h
    rw [List.zipIdx_cons, List.foldl_cons, ih off (k + 1) _ (by simp; omega)]
    simp only [Array.toList_setIfInBounds, List.length_cons]
    have hl : off + k < zs.toList.length := by rw [Array.length_toList]; omega
    rw [show off + (k + 1) = off + k + 1 by omega, List.take_set, List.drop_set, if_pos (by omega), List.take_add_one, List.getElem?_eq_getElem hl]
    simp only [Option.toList_some]
    rw [List.set_append_right _ _ (by rw [List.length_take]; omega), List.length_take, Nat.min_eq_left (by omega), Nat.sub_self]
    simp [List.append_assoc]
    congr 1; omega
/-- A ring's cursors as cells: the heads are eight, used or not. -/
def cuF (cap rd tail : Nat) (hs : List Nat) (cl : Bool) : List Value := [.int .u64 (cap : Int), .int .i64 (rd : Int), .int .u64 (tail : Int)] ++ hs.map (fun (h : Nat) => Value.int .u64 (h : Int)) ++ [.bool cl]
set_option maxRecDepth 100000 in
theorem rgZero : ∀ w : World, (zeroValue 83).run Try.prog w = .ok (.agg (cuF 0 0 0 [0, 0, 0, 0, 0, 0, 0, 0] false ++ ([Value.int .i64 0, .int .i64 0] ++ rowsOf slF (List.replicate 64 ⟨0, 0, 0⟩))).toArray) w := fun w => by kernel_rfl
theorem rgUnder : Try.prog.underlying 83 = some (.struct (Try.prog.fieldsOf 83)) := by kernel_rfl
set_option maxRecDepth 100000 in
theorem ring_build (w : World) (cap rd : Nat) (cs : List Value) (hcs : cs.length = 194) :
    (Instr.build 83 #[(0, .agg (cuF cap rd 0 [0, 0, 0, 0, 0, 0, 0, 0] false).toArray), (1, .agg cs.toArray)]).run Try.prog w = .ok (.agg (cuF cap rd 0 [0, 0, 0, 0, 0, 0, 0, 0] false ++ cs).toArray) w := by
  obtain ⟨zs, hzs⟩ : ∃ zs : Array Value, zs = (cuF 0 0 0 [0, 0, 0, 0, 0, 0, 0, 0] false ++ ([Value.int .i64 0, .int .i64 0] ++ rowsOf slF (List.replicate 64 ⟨0, 0, 0⟩))).toArray := ⟨_, rfl⟩
  have hz := rgZero
  rw [← hzs] at hz
  have hzn : zs.size = 206 := by rw [hzs]; rfl
  clear hzs
  have hu := Try.underlying83
  unfold Instr.build
  simp [go_sem, hz]
  have hzl : zs.toList.length = 206 := by rw [Array.length_toList]; exact hzn
  have hA : (cuF cap rd 0 [0, 0, 0, 0, 0, 0, 0, 0] false).length = 12 := rfl
  generalize cuF cap rd 0 [0, 0, 0, 0, 0, 0, 0, 0] false = A at *
  have h1 := fold_put A 0 0 zs (by omega)
  simp only [Nat.zero_add, List.take_zero, List.nil_append] at h1
  generalize hP : List.foldl (fun cs x => cs.setIfInBounds x.snd x.fst) zs A.zipIdx = P1 at *
  have hP1 : P1.size = 206 := by rw [← Array.length_toList, h1, List.length_append, List.length_drop, hA, hzl]
  have h2 := fold_put cs 12 0 P1 (by omega)
  simp only [Nat.add_zero] at h2
  rw [if_neg (by omega), if_neg (by omega)]
  simp only [Sem.run_pure]
  congr 2
  apply Array.toList_inj.1
  rw [h2, h1, List.take_append_of_le_length (by omega), List.take_of_length_le (by omega), List.drop_of_length_le (by rw [List.length_append, List.length_drop, hA, hzl, hcs]; omega)]
  simp
end Go.Proofs.Ytahojmioonpodaa
