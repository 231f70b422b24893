/-
  One plain instruction (layer 16): thread.plain, its walk.
-/
import Derived.Test.YtiegmpjoiekekaaThp
namespace Go.Proofs.Ytiegmpjoiekekaa
open Go.RowKit
set_option linter.unusedVariables false
set_option linter.unusedSimpArgs false
def PlPost (g : Nat) (x : Th) (v : Value) (w : World) (e : Ending) (w' : World) : Prop := e = .returned (.tuple #[]) ∧ Lies w' g 27 (thC x v) ∧ Kept (oneRow g) w w'
def plV (g bi an bn cn on un : Nat) (iso : Bool) (x : Th) (v : Value) : Nat → Value → World → Prop
  | 0, u, _ => u = .pointer (some ⟨g, 0, none⟩)
  | 1, u, _ => u = .pointer (some ⟨bi, 1, none⟩)
  | 2, u, _ => u = .int .i64 (an : Int)
  | 3, u, _ => u = .pointer (some ⟨bi, 0, none⟩)
  | 4, u, _ => u = .int .i64 (on : Int)
  | 5, u, _ => u = .pointer (some ⟨g, 0, none⟩)
  | 6, u, _ => u = .pointer (some ⟨bi, 2, none⟩)
  | 7, u, _ => u = .int .i64 (bn : Int)
  | 8, u, _ => u = .pointer (some ⟨g, 0, none⟩)
  | 9, u, _ => u = .pointer (some ⟨g, 5, none⟩)
  | 10, u, _ => u = .pointer (some ⟨g, 5 + bn, none⟩)
  | 11, u, _ => u = .int .u64 (x.r bn : Int)
  | 12, u, _ => u = .pointer (some ⟨g, 0, none⟩)
  | 13, u, _ => u = .pointer (some ⟨bi, 3, none⟩)
  | 14, u, _ => u = .int .i64 (cn : Int)
  | 15, u, _ => u = .pointer (some ⟨g, 0, none⟩)
  | 16, u, _ => u = .pointer (some ⟨g, 5, none⟩)
  | 17, u, _ => u = .pointer (some ⟨g, 5 + cn, none⟩)
  | 18, u, _ => u = .int .u64 (x.r cn : Int)
  | 19, u, _ => u = .tuple #[.int .u64 (un : Int), .bool iso]
  | 20, u, _ => u = .tuple #[.int .u64 (un : Int), .bool iso]
  | 21, u, _ => u = .int .u64 (un : Int)
  | 22, u, _ => u = .bool iso
  | 23, u, _ => u = .pointer (some ⟨g, 0, none⟩)
  | 24, u, _ => u = .pointer (some ⟨g, 5, none⟩)
  | 25, u, _ => u = .pointer (some ⟨g, 5 + an, none⟩)
  | 26, _, q => Lies q g 27 (thC (setR x an un) v)
  | 27, _, q => Lies q g 27 (thC x v)
  | _, _, _ => True
def plLow (j : Nat) : Bool := decide (j < 26) || decide (28 ≤ j)
theorem plV_low {g bi an bn cn on un : Nat} {iso : Bool} {x : Th} {v : Value} {w w' : World} {j : Nat} {u : Value} (hj : plLow j = true) (h : plV g bi an bn cn on un iso x v j u w) : plV g bi an bn cn on un iso x v j u w' := by
  match j with
  | 0 => exact h
  | 1 => exact h
  | 2 => exact h
  | 3 => exact h
  | 4 => exact h
  | 5 => exact h
  | 6 => exact h
  | 7 => exact h
  | 8 => exact h
  | 9 => exact h
  | 10 => exact h
  | 11 => exact h
  | 12 => exact h
  | 13 => exact h
  | 14 => exact h
  | 15 => exact h
  | 16 => exact h
  | 17 => exact h
  | 18 => exact h
  | 19 => exact h
  | 20 => exact h
  | 21 => exact h
  | 22 => exact h
  | 23 => exact h
  | 24 => exact h
  | 25 => exact h
  | 26 => simp [plLow] at hj
  | 27 => simp [plLow] at hj
  | _ + 28 => trivial
set_option maxHeartbeats 8000000 in
set_option maxRecDepth 100000 in
theorem plain_any16 (i : In) (x : Th) (v : Value) (g : Nat) (w : World) (h : Lies w g 27 (thC x v)) (hr : rightB i = true) (h1 : 1 ≤ i.op) (h17 : i.op ≤ 17) (h0 : 0 ≤ x.at_) (h256 : x.at_ ≤ 256) (hx : ∀ j, x.r j ≤ 18446744073709551615) (hk : i.k ≤ 18446744073709551615) :
    Calls Try.prog 41 #[.agg (inC i), .pointer (some ⟨g, 0, none⟩)] w (PlPost g (stepT i x) v w) := by
  obtain ⟨⟨a0, a7⟩, ⟨b0, b7⟩, ⟨q0, q7⟩, hk15⟩ := plain_regs hr h1 h17
  obtain ⟨an, han⟩ : ∃ n : Nat, i.a = n := ⟨i.a.toNat, by omega⟩
  obtain ⟨bn, hbn⟩ : ∃ n : Nat, i.b = n := ⟨i.b.toNat, by omega⟩
  obtain ⟨cn, hcn⟩ : ∃ n : Nat, i.c = n := ⟨i.c.toNat, by omega⟩
  obtain ⟨on, hon⟩ : ∃ n : Nat, i.op = n := ⟨i.op.toNat, by omega⟩
  have hb0 : Below w.heap.size w (w.alloc (.cells (inC i) 50)) := (Below.refl _ _).alloc (Nat.le_refl _) _
  have l0 := Lies.made w 50 (inC i)
  have lg := h.below hb0 h.lt
  have c0 := (lg.cell 0).trans (show _ = some (Value.int .i64 x.at_) from rfl)
  have cl := lg.lt
  have HBK := Lib.hid ((Kept.of_below hb0).mono (T := oneRow g) (fun _ _ (e : False) => e.elim))
  have HB := Lib.hid hb0
  have HL := Lib.hid l0
  have HG := Lib.hid lg
  have hkn : Hid (w.heap.size ≠ g) := by have := h.lt; show _ ≠ _; omega
  have ha8 : an < 8 := by omega
  have hb8 : bn < 8 := by omega
  have hc8 : cn < 8 := by omega
  have HA := Lib.hid han
  have HBN := Lib.hid hbn
  have HCN := Lib.hid hcn
  have HON := Lib.hid hon
  have hon1 : 1 ≤ on ∧ on ≤ 17 := by omega
  have HGB : Hid (g < w.heap.size) := h.lt
  clear hb0 l0 lg h hr han hbn hcn hon h1 h17 a0 a7 b0 b7 q0 q7
  obtain ⟨bi, hbi⟩ : ∃ n, w.heap.size = n := ⟨_, rfl⟩
  rw [hbi] at HL hkn
  go_enter Try.func41, Try.ntmps41
  go_upto_region 2 with (fail)
  try simp only [hbi]
  clear c0 cl hbi
  generalize w.alloc (.cells (inC i) 50) = w1 at *
  have d0 := (HL.out.cell 0).trans (show _ = some (Value.int .i64 i.op) from rfl)
  have d1 := (HL.out.cell 1).trans (show _ = some (Value.int .i64 i.a) from rfl)
  have d2 := (HL.out.cell 2).trans (show _ = some (Value.int .i64 i.b) from rfl)
  have d3 := (HL.out.cell 3).trans (show _ = some (Value.int .i64 i.c) from rfl)
  have d5 := (HL.out.cell 5).trans (show _ = some (Value.int .u64 (i.k : Int)) from rfl)
  have dl := HL.out.lt
  rw [HA.out] at d1
  rw [HBN.out] at d2
  rw [HCN.out] at d3
  rw [HON.out] at d0
  by_cases o1 : on = 1
  · subst o1
    have HS1 : Hid (stepT i x = setR (goOn x) an i.k) := by
      show _ = _
      unfold stepT
      rw [HON.out, HA.out]
      simp
    have ra := (HG.out.cell (5 + an)).trans (thC_reg x v ha8)
    have rl := HG.out.lt
    have rf := HG.out.free (5 + an)
    go_wp2
    go_region
    have HG2 := Lib.hid (show Lies (w1.setCell ⟨g, 5 + an, none⟩ (.int .u64 (i.k : Int))).drew g 27 (thC (setR x an i.k) v) from by have := (HG.out.put (5 + an) (.int .u64 (i.k : Int))).drew; rwa [thC_set x v ha8] at this)
    have HK2 := Lib.hid ((Kept.put w1 g (5 + an) (.int .u64 (i.k : Int))).trans (Kept.drew noRow _) (fun _ _ h => h.elim))
    clear ra rl rf
    generalize (w1.setCell ⟨g, 5 + an, none⟩ (.int .u64 (i.k : Int))).drew = w2 at *
    have s0 := (HG2.out.cell 0).trans (show _ = some (Value.int .i64 x.at_) from rfl)
    have sl := HG2.out.lt
    have sf := HG2.out.free 0
    have HG3 := Lib.hid (HG2.out.put 0 (.int .i64 ((x.at_ + 1))))
    have HK3 := Lib.hid (((HBK.out.trans HK2.out (fun _ _ e => e))).trans (Kept.put w2 g 0 (.int .i64 ((x.at_ + 1)))) (fun _ _ e => e))
    go_wp2
    go_end0
    refine ⟨rfl, ?_, HK3.out⟩
    rw [HS1.out]
    exact HG3.out
  by_cases o2 : on = 2
  · subst o2
    have HS1 : Hid (stepT i x = setR (goOn x) an (x.r bn)) := by
      show _ = _
      unfold stepT
      rw [HON.out, HA.out, HBN.out]
      simp
    have ra := (HG.out.cell (5 + an)).trans (thC_reg x v ha8)
    have rb := (HG.out.cell (5 + bn)).trans (thC_reg x v hb8)
    have rl := HG.out.lt
    have rf := HG.out.free (5 + an)
    go_wp2
    go_region
    have HG2 := Lib.hid (show Lies (w1.setCell ⟨g, 5 + an, none⟩ (.int .u64 (x.r bn : Int))).drew g 27 (thC (setR x an (x.r bn)) v) from by have := (HG.out.put (5 + an) (.int .u64 (x.r bn : Int))).drew; rwa [thC_set x v ha8] at this)
    have HK2 := Lib.hid ((Kept.put w1 g (5 + an) (.int .u64 (x.r bn : Int))).trans (Kept.drew noRow _) (fun _ _ h => h.elim))
    clear ra rb rl rf
    generalize (w1.setCell ⟨g, 5 + an, none⟩ (.int .u64 (x.r bn : Int))).drew = w2 at *
    have s0 := (HG2.out.cell 0).trans (show _ = some (Value.int .i64 x.at_) from rfl)
    have sl := HG2.out.lt
    have sf := HG2.out.free 0
    have HG3 := Lib.hid (HG2.out.put 0 (.int .i64 ((x.at_ + 1))))
    have HK3 := Lib.hid (((HBK.out.trans HK2.out (fun _ _ e => e))).trans (Kept.put w2 g 0 (.int .i64 ((x.at_ + 1)))) (fun _ _ e => e))
    go_wp2
    go_end0
    refine ⟨rfl, ?_, HK3.out⟩
    rw [HS1.out]
    exact HG3.out
  by_cases o15 : on = 15
  · subst o15
    have HS1 : Hid (stepT i x = { x with at_ := (i.k : Int) }) := by
      show _ = _
      unfold stepT
      rw [HON.out]
      simp
    have hk2 : i.k ≤ 256 := hk15 (by rw [HON.out]; decide)
    have hwk : IntKind.i64.wrap (i.k : Int) = (i.k : Int) := IntWalk.i64_in _ (by omega)
    have HKR := Lib.hid (Kept.refl (oneRow g) w1)
    have s0 := (HG.out.cell 0).trans (show _ = some (Value.int .i64 x.at_) from rfl)
    have sl := HG.out.lt
    have sf := HG.out.free 0
    have HG3 := Lib.hid (HG.out.put 0 (.int .i64 ((i.k : Int))))
    have HK3 := Lib.hid (((HBK.out.trans HKR.out (fun _ _ e => e))).trans (Kept.put w1 g 0 (.int .i64 ((i.k : Int)))) (fun _ _ e => e))
    go_wp2
    go_end0
    refine ⟨rfl, ?_, HK3.out⟩
    rw [HS1.out]
    exact HG3.out
  by_cases o16 : on = 16
  · subst o16
    have hk2 : i.k ≤ 256 := hk15 (by rw [HON.out]; decide)
    have hwk : IntKind.i64.wrap (i.k : Int) = (i.k : Int) := IntWalk.i64_in _ (by omega)
    have ra := (HG.out.cell (5 + an)).trans (thC_reg x v ha8)
    have rl := HG.out.lt
    by_cases hz : x.r an = 0
    · have HS1 : Hid (stepT i x = { x with at_ := (i.k : Int) }) := by
        show _ = _
        unfold stepT
        rw [HON.out, HA.out]
        simp [hz]
      rw [hz] at ra
      clear hz
      go_wp2
      go_quiet (fail)
      clear ra rl
      have HG2 := Lib.hid (HG.out.drewN nq)
      have HKR := Lib.hid (Kept.drewN (oneRow g) w1 nq)
      have d5 : (w1.drewN nq).cell? _ = _ := d5
      generalize w1.drewN nq = w2 at *
      have s0 := (HG2.out.cell 0).trans (show _ = some (Value.int .i64 x.at_) from rfl)
      have sl := HG2.out.lt
      have sf := HG2.out.free 0
      have HG3 := Lib.hid (HG2.out.put 0 (.int .i64 ((i.k : Int))))
      have HK3 := Lib.hid (((HBK.out.trans HKR.out (fun _ _ e => e))).trans (Kept.put w2 g 0 (.int .i64 ((i.k : Int)))) (fun _ _ e => e))
      go_wp2
      go_end0
      refine ⟨rfl, ?_, HK3.out⟩
      rw [HS1.out]
      exact HG3.out
    · have HS1 : Hid (stepT i x = goOn x) := by
        show _ = _
        unfold stepT
        rw [HON.out, HA.out]
        simp [hz]
      have hz1 : ((x.r an : Int) == 0) = false := by rw [beq_eq_false_iff_ne]; omega
      have hz2 : (x.r an == 0) = false := by rw [beq_eq_false_iff_ne]; exact hz
      go_wp2
      go_quiet (fail)
      clear ra rl hz hz1 hz2
      have HG2 := Lib.hid (HG.out.drewN nq)
      have HKR := Lib.hid (Kept.drewN (oneRow g) w1 nq)
      generalize w1.drewN nq = w2 at *
      have s0 := (HG2.out.cell 0).trans (show _ = some (Value.int .i64 x.at_) from rfl)
      have sl := HG2.out.lt
      have sf := HG2.out.free 0
      have HG3 := Lib.hid (HG2.out.put 0 (.int .i64 ((x.at_ + 1))))
      have HK3 := Lib.hid (((HBK.out.trans HKR.out (fun _ _ e => e))).trans (Kept.put w2 g 0 (.int .i64 ((x.at_ + 1)))) (fun _ _ e => e))
      go_wp2
      go_end0
      refine ⟨rfl, ?_, HK3.out⟩
      rw [HS1.out]
      exact HG3.out
  by_cases o17 : on = 17
  · subst o17
    have hk2 : i.k ≤ 256 := hk15 (by rw [HON.out]; decide)
    have hwk : IntKind.i64.wrap (i.k : Int) = (i.k : Int) := IntWalk.i64_in _ (by omega)
    have ra := (HG.out.cell (5 + an)).trans (thC_reg x v ha8)
    have rl := HG.out.lt
    by_cases hz : x.r an = 0
    · have HS1 : Hid (stepT i x = goOn x) := by
        show _ = _
        unfold stepT
        rw [HON.out, HA.out]
        simp [hz]
      have hz1 : ((x.r an : Int) == 0) = true := by rw [beq_iff_eq]; omega
      have hz2 : (x.r an == 0) = true := by rw [beq_iff_eq]; exact hz
      have hz3 : ((x.r an : Int) != 0) = false := by rw [bne_eq_false_iff_eq]; omega
      have HZ9 := Lib.hid hz
      clear hz
      go_wp2
      go_quiet (fail)
      clear ra rl hz1 hz2 hz3 HZ9
      have HG2 := Lib.hid (HG.out.drewN nq)
      have HKR := Lib.hid (Kept.drewN (oneRow g) w1 nq)
      generalize w1.drewN nq = w2 at *
      have s0 := (HG2.out.cell 0).trans (show _ = some (Value.int .i64 x.at_) from rfl)
      have sl := HG2.out.lt
      have sf := HG2.out.free 0
      have HG3 := Lib.hid (HG2.out.put 0 (.int .i64 ((x.at_ + 1))))
      have HK3 := Lib.hid (((HBK.out.trans HKR.out (fun _ _ e => e))).trans (Kept.put w2 g 0 (.int .i64 ((x.at_ + 1)))) (fun _ _ e => e))
      go_wp2
      go_end0
      refine ⟨rfl, ?_, HK3.out⟩
      rw [HS1.out]
      exact HG3.out
    · have HS1 : Hid (stepT i x = { x with at_ := (i.k : Int) }) := by
        show _ = _
        unfold stepT
        rw [HON.out, HA.out]
        simp [hz]
      have hz1 : ((x.r an : Int) == 0) = false := by rw [beq_eq_false_iff_ne]; omega
      have hz2 : (x.r an == 0) = false := by rw [beq_eq_false_iff_ne]; exact hz
      have hz3 : ((x.r an : Int) != 0) = true := by rw [bne_iff_ne]; omega
      go_wp2
      go_quiet (fail)
      clear ra rl hz hz1 hz2 hz3
      have HG2 := Lib.hid (HG.out.drewN nq)
      have HKR := Lib.hid (Kept.drewN (oneRow g) w1 nq)
      have d5 : (w1.drewN nq).cell? _ = _ := d5
      generalize w1.drewN nq = w2 at *
      have s0 := (HG2.out.cell 0).trans (show _ = some (Value.int .i64 x.at_) from rfl)
      have sl := HG2.out.lt
      have sf := HG2.out.free 0
      have HG3 := Lib.hid (HG2.out.put 0 (.int .i64 ((i.k : Int))))
      have HK3 := Lib.hid (((HBK.out.trans HKR.out (fun _ _ e => e))).trans (Kept.put w2 g 0 (.int .i64 ((i.k : Int)))) (fun _ _ e => e))
      go_wp2
      go_end0
      refine ⟨rfl, ?_, HK3.out⟩
      rw [HS1.out]
      exact HG3.out
  have hon2 : 3 ≤ on ∧ on ≤ 14 := by omega
  have HS1 : Hid (stepT i x = setR (goOn x) an (doV (on : Int) (x.r bn : Int) (x.r cn : Int)).toNat) := by
    show _ = _
    unfold stepT
    rw [HON.out, HA.out, HBN.out, HCN.out]
    rw [if_neg (by omega), if_neg (by omega), if_neg (by omega), if_neg (by omega), if_neg (by omega)]
    simp
  have HU := Lib.hid (doV_u64 (on : Int) (x.r bn : Int) (x.r cn : Int) ⟨by omega, by have := hx bn; omega⟩ ⟨by omega, by have := hx cn; omega⟩)
  have HDO := Lib.hid (fun w => do_any (on : Int) (x.r bn : Int) (x.r cn : Int) w ⟨by omega, by have := hx bn; omega⟩ ⟨by omega, by have := hx cn; omega⟩)
  obtain ⟨un, hun⟩ : ∃ n : Nat, doV (on : Int) (x.r bn : Int) (x.r cn : Int) = n := ⟨(doV (on : Int) (x.r bn : Int) (x.r cn : Int)).toNat, by have := HU.out; unfold U64 at this; omega⟩
  rw [hun] at HS1 HDO
  rw [Int.toNat_natCast] at HS1
  clear HU hun
  have e1 : ((on : Int) == 1) = false := by rw [beq_eq_false_iff_ne]; omega
  have e2 : ((on : Int) == 2) = false := by rw [beq_eq_false_iff_ne]; omega
  have e15 : ((on : Int) == 15) = false := by rw [beq_eq_false_iff_ne]; omega
  have e16 : ((on : Int) == 16) = false := by rw [beq_eq_false_iff_ne]; omega
  have e17 : ((on : Int) == 17) = false := by rw [beq_eq_false_iff_ne]; omega
  generalize isOp (on : Int) = iso at *
  have ra := (HG.out.cell (5 + an)).trans (thC_reg x v ha8)
  have rb := (HG.out.cell (5 + bn)).trans (thC_reg x v hb8)
  have rc := (HG.out.cell (5 + cn)).trans (thC_reg x v hc8)
  have rl := HG.out.lt
  have rf := HG.out.free (5 + an)
  clear o1 o2 o15 o16 o17 hon1 hon2 hk15
  have HS0 := Lib.hid (show Kept (oneRow g) w1 w1 ∧ Lies w1 bi 50 (inC i) from ⟨Kept.refl _ _, HL.out⟩)
  clear ra rb rc rl rf d1 d2 d3 d5
  go_wp2_with fail
  clear d0 dl
  refine wp_region_rely (fun q => Kept (oneRow g) w1 q ∧ Lies q bi 50 (inC i)) (plV g bi an bn cn on un iso x v) [some 13, some 14, some 15, some 16, some 17, some 18, some 19, some 20, some 21, some 22, some 23, some 24, some 25, some 26, some 27, some 28, some 29, some 30, some 31, some 32, some 12, some 33, some 34, some 35, some 36, some 37, none] [[], [], [1], [], [3], [], [], [6], [5], [8], [9, 7], [10, 27], [], [], [13], [12], [15], [16, 14], [17, 27], [4, 11, 18], [19], [20], [20], [0], [23], [24, 2], [25, 21, 27]] [[22], [22], [1, 22], [22], [3, 22], [22], [22], [6, 22], [5, 22], [5, 8, 22], [6, 7, 8, 9, 22], [7, 9, 10, 22], [22], [22], [13, 22], [12, 22], [12, 15, 22], [13, 14, 15, 16, 22], [14, 16, 17, 22], [3, 4, 10, 11, 17, 18, 22], [4, 11, 18, 19], [19, 22], [19], [0, 22], [0, 22, 23], [1, 2, 3, 4, 5, 6, 7, 8, 9, 10, 11, 12, 13, 14, 15, 16, 17, 18, 19, 22, 23, 24], [1, 2, 3, 4, 5, 6, 7, 8, 9, 10, 11, 12, 13, 14, 15, 16, 17, 18, 19, 21, 22, 24, 25, 27]] [[1, 2, 3, 4, 5, 6, 7, 8, 9, 10, 11, 12, 13, 14, 15, 16, 17, 18, 19, 20, 21, 24, 27], [0, 3, 4, 5, 6, 7, 8, 9, 10, 11, 12, 13, 14, 15, 16, 17, 18, 19, 20, 21, 23, 24, 27], [0, 3, 4, 5, 6, 7, 8, 9, 10, 11, 12, 13, 14, 15, 16, 17, 18, 19, 20, 21, 23, 24, 27], [0, 1, 2, 5, 6, 7, 8, 9, 10, 11, 12, 13, 14, 15, 16, 17, 18, 19, 20, 21, 23, 24, 27], [0, 1, 2, 5, 6, 7, 8, 9, 10, 11, 12, 13, 14, 15, 16, 17, 18, 20, 21, 23, 24, 27], [0, 1, 2, 3, 4, 6, 7, 9, 10, 11, 12, 13, 14, 15, 16, 17, 18, 19, 20, 21, 23, 24, 27], [0, 1, 2, 3, 4, 5, 8, 9, 10, 11, 12, 13, 14, 15, 16, 17, 18, 19, 20, 21, 23, 24, 27], [0, 1, 2, 3, 4, 5, 8, 9, 11, 12, 13, 14, 15, 16, 17, 18, 19, 20, 21, 23, 24, 27], [0, 1, 2, 3, 4, 6, 7, 10, 11, 12, 13, 14, 15, 16, 17, 18, 19, 20, 21, 23, 24, 27], [0, 1, 2, 3, 4, 6, 7, 11, 12, 13, 14, 15, 16, 17, 18, 19, 20, 21, 23, 24, 27], [0, 1, 2, 3, 4, 12, 13, 14, 15, 16, 17, 18, 19, 20, 21, 23, 24, 27], [0, 1, 2, 3, 4, 5, 12, 13, 14, 15, 16, 17, 18, 20, 21, 23, 24, 27], [0, 1, 2, 3, 4, 5, 6, 7, 8, 9, 10, 11, 13, 14, 16, 17, 18, 19, 20, 21, 23, 24, 27], [0, 1, 2, 3, 4, 5, 6, 7, 8, 9, 10, 11, 12, 15, 16, 17, 18, 19, 20, 21, 23, 24, 27], [0, 1, 2, 3, 4, 5, 6, 7, 8, 9, 10, 11, 12, 15, 16, 18, 19, 20, 21, 23, 24, 27], [0, 1, 2, 3, 4, 5, 6, 7, 8, 9, 10, 11, 13, 14, 17, 18, 19, 20, 21, 23, 24, 27], [0, 1, 2, 3, 4, 5, 6, 7, 8, 9, 10, 11, 13, 14, 18, 19, 20, 21, 23, 24, 27], [0, 1, 2, 3, 4, 5, 6, 7, 8, 9, 10, 11, 19, 20, 21, 23, 24, 27], [0, 1, 2, 3, 4, 5, 6, 7, 8, 9, 10, 11, 12, 20, 21, 23, 24, 27], [0, 1, 2, 5, 6, 8, 12, 13, 15, 21, 23, 24, 27], [0, 1, 2, 5, 6, 7, 8, 9, 12, 13, 14, 15, 16, 23, 24, 27], [0, 1, 2, 3, 5, 6, 7, 8, 9, 10, 12, 13, 14, 15, 16, 17, 20, 23, 24, 27], [0, 1, 2, 3, 5, 6, 7, 8, 9, 10, 12, 13, 14, 15, 16, 17, 20, 21, 23, 24, 25, 26, 27], [1, 2, 3, 4, 5, 6, 7, 8, 9, 10, 11, 12, 13, 14, 15, 16, 17, 18, 19, 20, 21, 25, 26, 27], [1, 2, 3, 4, 5, 6, 7, 8, 9, 10, 11, 12, 13, 14, 15, 16, 17, 18, 19, 20, 21, 26, 27], [20, 21, 27], [0, 20]] [0, 1, 2, 3, 4, 5, 6, 7, 8, 9, 10, 11, 12, 13, 14, 15, 16, 17, 18, 19, 20, 21, 22, 23, 24, 25, 26] 28 (by kernel_rfl) (by kernel_rfl) (by kernel_rfl) (by kernel_rfl) ?rS ?rI ?rT ?rE
  case rS => exact ⟨Kept.drewN _ w1 1, HS0.out.2.drewN 1⟩
  case rI =>
    intro j h1 h2
    have h1 : j < 28 := h1
    have h2 : 27 ≤ j := h2
    obtain rfl : j = 27 := by omega
    exact HG.out.drewN 1
  case rT =>
    refine RelySteps.cons (RelyStep.mk [] [1, 2, 3, 4, 5, 6, 7, 8, 9, 10, 11, 12, 13, 14, 15, 16, 17, 18, 19, 20, 21, 24, 27] rfl rfl rfl (fun xv wS hS hV bq hb K hK => ?_)) ?_
    · clear hV
      simp only [putsOf, List.foldl_cons, List.foldl_nil, List.getD_cons_zero, List.getD_cons_succ, List.getD_nil, cond_true, cond_false, Act.put, List.setIfInBounds_toArray, List.set_cons_zero, List.set_cons_succ] at hb
      subst hb
      rw [if_pos (by rfl)]
      go_wp2_with fail
      exact hK.out _ _ ⟨_, rfl, hS, rfl, AllP.same _⟩
    refine RelySteps.cons (RelyStep.mk [] [0, 3, 4, 5, 6, 7, 8, 9, 10, 11, 12, 13, 14, 15, 16, 17, 18, 19, 20, 21, 23, 24, 27] rfl rfl rfl (fun xv wS hS hV bq hb K hK => ?_)) ?_
    · clear hV
      simp only [putsOf, List.foldl_cons, List.foldl_nil, List.getD_cons_zero, List.getD_cons_succ, List.getD_nil, cond_true, cond_false, Act.put, List.setIfInBounds_toArray, List.set_cons_zero, List.set_cons_succ] at hb
      subst hb
      rw [if_pos (by rfl)]
      go_wp2_with fail
      exact hK.out _ _ ⟨_, rfl, hS, rfl, AllP.same _⟩
    refine RelySteps.cons (RelyStep.mk [1] [0, 3, 4, 5, 6, 7, 8, 9, 10, 11, 12, 13, 14, 15, 16, 17, 18, 19, 20, 21, 23, 24, 27] rfl rfl rfl (fun xv wS hS hV bq hb K hK => ?_)) ?_
    · obtain ⟨h1, _⟩ := hV
      have h1 : xv 1 = _ := h1
      simp only [putsOf, List.foldl_cons, List.foldl_nil, List.getD_cons_zero, List.getD_cons_succ, List.getD_nil, cond_true, cond_false, Act.put, List.setIfInBounds_toArray, List.set_cons_zero, List.set_cons_succ, h1] at hb
      clear h1
      subst hb
      rw [if_pos (by rfl)]
      (have c9 := (hS.2.cell 1).trans (show _ = some (Value.int .i64 i.a) from rfl); rw [HA.out] at c9; have c8 := hS.2.lt)
      go_wp2_with fail
      exact hK.out _ _ ⟨_, rfl, hS, rfl, AllP.same _⟩
    refine RelySteps.cons (RelyStep.mk [] [0, 1, 2, 5, 6, 7, 8, 9, 10, 11, 12, 13, 14, 15, 16, 17, 18, 19, 20, 21, 23, 24, 27] rfl rfl rfl (fun xv wS hS hV bq hb K hK => ?_)) ?_
    · clear hV
      simp only [putsOf, List.foldl_cons, List.foldl_nil, List.getD_cons_zero, List.getD_cons_succ, List.getD_nil, cond_true, cond_false, Act.put, List.setIfInBounds_toArray, List.set_cons_zero, List.set_cons_succ] at hb
      subst hb
      rw [if_pos (by rfl)]
      go_wp2_with fail
      exact hK.out _ _ ⟨_, rfl, hS, rfl, AllP.same _⟩
    refine RelySteps.cons (RelyStep.mk [3] [0, 1, 2, 5, 6, 7, 8, 9, 10, 11, 12, 13, 14, 15, 16, 17, 18, 20, 21, 23, 24, 27] rfl rfl rfl (fun xv wS hS hV bq hb K hK => ?_)) ?_
    · obtain ⟨h3, _⟩ := hV
      have h3 : xv 3 = _ := h3
      simp only [putsOf, List.foldl_cons, List.foldl_nil, List.getD_cons_zero, List.getD_cons_succ, List.getD_nil, cond_true, cond_false, Act.put, List.setIfInBounds_toArray, List.set_cons_zero, List.set_cons_succ, h3] at hb
      clear h3
      subst hb
      rw [if_pos (by rfl)]
      (have c9 := (hS.2.cell 0).trans (show _ = some (Value.int .i64 i.op) from rfl); rw [HON.out] at c9; have c8 := hS.2.lt)
      go_wp2_with fail
      exact hK.out _ _ ⟨_, rfl, hS, rfl, AllP.same _⟩
    refine RelySteps.cons (RelyStep.mk [] [0, 1, 2, 3, 4, 6, 7, 9, 10, 11, 12, 13, 14, 15, 16, 17, 18, 19, 20, 21, 23, 24, 27] rfl rfl rfl (fun xv wS hS hV bq hb K hK => ?_)) ?_
    · clear hV
      simp only [putsOf, List.foldl_cons, List.foldl_nil, List.getD_cons_zero, List.getD_cons_succ, List.getD_nil, cond_true, cond_false, Act.put, List.setIfInBounds_toArray, List.set_cons_zero, List.set_cons_succ] at hb
      subst hb
      rw [if_pos (by rfl)]
      go_wp2_with fail
      exact hK.out _ _ ⟨_, rfl, hS, rfl, AllP.same _⟩
    refine RelySteps.cons (RelyStep.mk [] [0, 1, 2, 3, 4, 5, 8, 9, 10, 11, 12, 13, 14, 15, 16, 17, 18, 19, 20, 21, 23, 24, 27] rfl rfl rfl (fun xv wS hS hV bq hb K hK => ?_)) ?_
    · clear hV
      simp only [putsOf, List.foldl_cons, List.foldl_nil, List.getD_cons_zero, List.getD_cons_succ, List.getD_nil, cond_true, cond_false, Act.put, List.setIfInBounds_toArray, List.set_cons_zero, List.set_cons_succ] at hb
      subst hb
      rw [if_pos (by rfl)]
      go_wp2_with fail
      exact hK.out _ _ ⟨_, rfl, hS, rfl, AllP.same _⟩
    refine RelySteps.cons (RelyStep.mk [6] [0, 1, 2, 3, 4, 5, 8, 9, 11, 12, 13, 14, 15, 16, 17, 18, 19, 20, 21, 23, 24, 27] rfl rfl rfl (fun xv wS hS hV bq hb K hK => ?_)) ?_
    · obtain ⟨h6, _⟩ := hV
      have h6 : xv 6 = _ := h6
      simp only [putsOf, List.foldl_cons, List.foldl_nil, List.getD_cons_zero, List.getD_cons_succ, List.getD_nil, cond_true, cond_false, Act.put, List.setIfInBounds_toArray, List.set_cons_zero, List.set_cons_succ, h6] at hb
      clear h6
      subst hb
      rw [if_pos (by rfl)]
      (have c9 := (hS.2.cell 2).trans (show _ = some (Value.int .i64 i.b) from rfl); rw [HBN.out] at c9; have c8 := hS.2.lt)
      go_wp2_with fail
      exact hK.out _ _ ⟨_, rfl, hS, rfl, AllP.same _⟩
    refine RelySteps.cons (RelyStep.mk [5] [0, 1, 2, 3, 4, 6, 7, 10, 11, 12, 13, 14, 15, 16, 17, 18, 19, 20, 21, 23, 24, 27] rfl rfl rfl (fun xv wS hS hV bq hb K hK => ?_)) ?_
    · obtain ⟨h5, _⟩ := hV
      have h5 : xv 5 = _ := h5
      simp only [putsOf, List.foldl_cons, List.foldl_nil, List.getD_cons_zero, List.getD_cons_succ, List.getD_nil, cond_true, cond_false, Act.put, List.setIfInBounds_toArray, List.set_cons_zero, List.set_cons_succ, h5] at hb
      clear h5
      subst hb
      rw [if_pos (by rfl)]
      go_wp2_with fail
      exact hK.out _ _ ⟨_, rfl, hS, rfl, AllP.same _⟩
    refine RelySteps.cons (RelyStep.mk [8] [0, 1, 2, 3, 4, 6, 7, 11, 12, 13, 14, 15, 16, 17, 18, 19, 20, 21, 23, 24, 27] rfl rfl rfl (fun xv wS hS hV bq hb K hK => ?_)) ?_
    · obtain ⟨h8, _⟩ := hV
      have h8 : xv 8 = _ := h8
      simp only [putsOf, List.foldl_cons, List.foldl_nil, List.getD_cons_zero, List.getD_cons_succ, List.getD_nil, cond_true, cond_false, Act.put, List.setIfInBounds_toArray, List.set_cons_zero, List.set_cons_succ, h8] at hb
      clear h8
      subst hb
      rw [if_pos (by rfl)]
      go_wp2_with fail
      exact hK.out _ _ ⟨_, rfl, hS, rfl, AllP.same _⟩
    refine RelySteps.cons (RelyStep.mk [9, 7] [0, 1, 2, 3, 4, 12, 13, 14, 15, 16, 17, 18, 19, 20, 21, 23, 24, 27] rfl rfl rfl (fun xv wS hS hV bq hb K hK => ?_)) ?_
    · obtain ⟨h9, h7, _⟩ := hV
      have h9 : xv 9 = _ := h9
      have h7 : xv 7 = _ := h7
      simp only [putsOf, List.foldl_cons, List.foldl_nil, List.getD_cons_zero, List.getD_cons_succ, List.getD_nil, cond_true, cond_false, Act.put, List.setIfInBounds_toArray, List.set_cons_zero, List.set_cons_succ, h9, h7] at hb
      clear h9
      clear h7
      subst hb
      rw [if_pos (by rfl)]
      go_wp2_with fail
      exact hK.out _ _ ⟨_, rfl, hS, rfl, AllP.same _⟩
    refine RelySteps.cons (RelyStep.mk [10, 27] [0, 1, 2, 3, 4, 5, 12, 13, 14, 15, 16, 17, 18, 20, 21, 23, 24, 27] rfl rfl rfl (fun xv wS hS hV bq hb K hK => ?_)) ?_
    · obtain ⟨h10, h27, _⟩ := hV
      have h10 : xv 10 = _ := h10
      simp only [putsOf, List.foldl_cons, List.foldl_nil, List.getD_cons_zero, List.getD_cons_succ, List.getD_nil, cond_true, cond_false, Act.put, List.setIfInBounds_toArray, List.set_cons_zero, List.set_cons_succ, h10] at hb
      clear h10
      generalize xv 27 = y27 at *
      subst hb
      rw [if_pos (by rfl)]
      (have q1 : Lies wS g _ (thC x v) := h27; have c9 := (q1.cell (5 + bn)).trans (thC_reg x v hb8); have c8 := q1.lt; clear q1 h27)
      go_wp2_with fail
      exact hK.out _ _ ⟨_, rfl, hS, rfl, AllP.same _⟩
    refine RelySteps.cons (RelyStep.mk [] [0, 1, 2, 3, 4, 5, 6, 7, 8, 9, 10, 11, 13, 14, 16, 17, 18, 19, 20, 21, 23, 24, 27] rfl rfl rfl (fun xv wS hS hV bq hb K hK => ?_)) ?_
    · clear hV
      simp only [putsOf, List.foldl_cons, List.foldl_nil, List.getD_cons_zero, List.getD_cons_succ, List.getD_nil, cond_true, cond_false, Act.put, List.setIfInBounds_toArray, List.set_cons_zero, List.set_cons_succ] at hb
      subst hb
      rw [if_pos (by rfl)]
      go_wp2_with fail
      exact hK.out _ _ ⟨_, rfl, hS, rfl, AllP.same _⟩
    refine RelySteps.cons (RelyStep.mk [] [0, 1, 2, 3, 4, 5, 6, 7, 8, 9, 10, 11, 12, 15, 16, 17, 18, 19, 20, 21, 23, 24, 27] rfl rfl rfl (fun xv wS hS hV bq hb K hK => ?_)) ?_
    · clear hV
      simp only [putsOf, List.foldl_cons, List.foldl_nil, List.getD_cons_zero, List.getD_cons_succ, List.getD_nil, cond_true, cond_false, Act.put, List.setIfInBounds_toArray, List.set_cons_zero, List.set_cons_succ] at hb
      subst hb
      rw [if_pos (by rfl)]
      go_wp2_with fail
      exact hK.out _ _ ⟨_, rfl, hS, rfl, AllP.same _⟩
    refine RelySteps.cons (RelyStep.mk [13] [0, 1, 2, 3, 4, 5, 6, 7, 8, 9, 10, 11, 12, 15, 16, 18, 19, 20, 21, 23, 24, 27] rfl rfl rfl (fun xv wS hS hV bq hb K hK => ?_)) ?_
    · obtain ⟨h13, _⟩ := hV
      have h13 : xv 13 = _ := h13
      simp only [putsOf, List.foldl_cons, List.foldl_nil, List.getD_cons_zero, List.getD_cons_succ, List.getD_nil, cond_true, cond_false, Act.put, List.setIfInBounds_toArray, List.set_cons_zero, List.set_cons_succ, h13] at hb
      clear h13
      subst hb
      rw [if_pos (by rfl)]
      (have c9 := (hS.2.cell 3).trans (show _ = some (Value.int .i64 i.c) from rfl); rw [HCN.out] at c9; have c8 := hS.2.lt)
      go_wp2_with fail
      exact hK.out _ _ ⟨_, rfl, hS, rfl, AllP.same _⟩
    refine RelySteps.cons (RelyStep.mk [12] [0, 1, 2, 3, 4, 5, 6, 7, 8, 9, 10, 11, 13, 14, 17, 18, 19, 20, 21, 23, 24, 27] rfl rfl rfl (fun xv wS hS hV bq hb K hK => ?_)) ?_
    · obtain ⟨h12, _⟩ := hV
      have h12 : xv 12 = _ := h12
      simp only [putsOf, List.foldl_cons, List.foldl_nil, List.getD_cons_zero, List.getD_cons_succ, List.getD_nil, cond_true, cond_false, Act.put, List.setIfInBounds_toArray, List.set_cons_zero, List.set_cons_succ, h12] at hb
      clear h12
      subst hb
      rw [if_pos (by rfl)]
      go_wp2_with fail
      exact hK.out _ _ ⟨_, rfl, hS, rfl, AllP.same _⟩
    refine RelySteps.cons (RelyStep.mk [15] [0, 1, 2, 3, 4, 5, 6, 7, 8, 9, 10, 11, 13, 14, 18, 19, 20, 21, 23, 24, 27] rfl rfl rfl (fun xv wS hS hV bq hb K hK => ?_)) ?_
    · obtain ⟨h15, _⟩ := hV
      have h15 : xv 15 = _ := h15
      simp only [putsOf, List.foldl_cons, List.foldl_nil, List.getD_cons_zero, List.getD_cons_succ, List.getD_nil, cond_true, cond_false, Act.put, List.setIfInBounds_toArray, List.set_cons_zero, List.set_cons_succ, h15] at hb
      clear h15
      subst hb
      rw [if_pos (by rfl)]
      go_wp2_with fail
      exact hK.out _ _ ⟨_, rfl, hS, rfl, AllP.same _⟩
    refine RelySteps.cons (RelyStep.mk [16, 14] [0, 1, 2, 3, 4, 5, 6, 7, 8, 9, 10, 11, 19, 20, 21, 23, 24, 27] rfl rfl rfl (fun xv wS hS hV bq hb K hK => ?_)) ?_
    · obtain ⟨h16, h14, _⟩ := hV
      have h16 : xv 16 = _ := h16
      have h14 : xv 14 = _ := h14
      simp only [putsOf, List.foldl_cons, List.foldl_nil, List.getD_cons_zero, List.getD_cons_succ, List.getD_nil, cond_true, cond_false, Act.put, List.setIfInBounds_toArray, List.set_cons_zero, List.set_cons_succ, h16, h14] at hb
      clear h16
      clear h14
      subst hb
      rw [if_pos (by rfl)]
      go_wp2_with fail
      exact hK.out _ _ ⟨_, rfl, hS, rfl, AllP.same _⟩
    refine RelySteps.cons (RelyStep.mk [17, 27] [0, 1, 2, 3, 4, 5, 6, 7, 8, 9, 10, 11, 12, 20, 21, 23, 24, 27] rfl rfl rfl (fun xv wS hS hV bq hb K hK => ?_)) ?_
    · obtain ⟨h17, h27, _⟩ := hV
      have h17 : xv 17 = _ := h17
      simp only [putsOf, List.foldl_cons, List.foldl_nil, List.getD_cons_zero, List.getD_cons_succ, List.getD_nil, cond_true, cond_false, Act.put, List.setIfInBounds_toArray, List.set_cons_zero, List.set_cons_succ, h17] at hb
      clear h17
      generalize xv 27 = y27 at *
      subst hb
      rw [if_pos (by rfl)]
      (have q1 : Lies wS g _ (thC x v) := h27; have c9 := (q1.cell (5 + cn)).trans (thC_reg x v hc8); have c8 := q1.lt; clear q1 h27)
      go_wp2_with fail
      exact hK.out _ _ ⟨_, rfl, hS, rfl, AllP.same _⟩
    refine RelySteps.cons (RelyStep.mk [4, 11, 18] [0, 1, 2, 5, 6, 8, 12, 13, 15, 21, 23, 24, 27] rfl rfl rfl (fun xv wS hS hV bq hb K hK => ?_)) ?_
    · obtain ⟨h4, h11, h18, _⟩ := hV
      have h4 : xv 4 = _ := h4
      have h11 : xv 11 = _ := h11
      have h18 : xv 18 = _ := h18
      simp only [putsOf, List.foldl_cons, List.foldl_nil, List.getD_cons_zero, List.getD_cons_succ, List.getD_nil, cond_true, cond_false, Act.put, List.setIfInBounds_toArray, List.set_cons_zero, List.set_cons_succ, h4, h11, h18] at hb
      clear h4
      clear h11
      clear h18
      subst hb
      rw [if_pos (by rfl)]
      have HSS := Lib.hid hS
      clear hS
      go_wp2_with fail
      refine (HDO.out _).mono ?_
      rintro e w' ⟨rfl, rfl⟩
      exact hK.out _ _ ⟨_, rfl, HSS.out, rfl, AllP.same _⟩
    refine RelySteps.cons (RelyStep.mk [19] [0, 1, 2, 5, 6, 7, 8, 9, 12, 13, 14, 15, 16, 23, 24, 27] rfl rfl rfl (fun xv wS hS hV bq hb K hK => ?_)) ?_
    · obtain ⟨h19, _⟩ := hV
      have h19 : xv 19 = _ := h19
      simp only [putsOf, List.foldl_cons, List.foldl_nil, List.getD_cons_zero, List.getD_cons_succ, List.getD_nil, cond_true, cond_false, Act.put, List.setIfInBounds_toArray, List.set_cons_zero, List.set_cons_succ, h19] at hb
      clear h19
      subst hb
      rw [if_pos (by rfl)]
      go_wp2_with fail
      exact hK.out _ _ ⟨_, rfl, hS, rfl, AllP.same _⟩
    refine RelySteps.cons (RelyStep.mk [20] [0, 1, 2, 3, 5, 6, 7, 8, 9, 10, 12, 13, 14, 15, 16, 17, 20, 23, 24, 27] rfl rfl rfl (fun xv wS hS hV bq hb K hK => ?_)) ?_
    · obtain ⟨h20, _⟩ := hV
      have h20 : xv 20 = _ := h20
      simp only [putsOf, List.foldl_cons, List.foldl_nil, List.getD_cons_zero, List.getD_cons_succ, List.getD_nil, cond_true, cond_false, Act.put, List.setIfInBounds_toArray, List.set_cons_zero, List.set_cons_succ, h20] at hb
      clear h20
      subst hb
      rw [if_pos (by rfl)]
      go_wp2_with fail
      exact hK.out _ _ ⟨_, rfl, hS, rfl, AllP.same _⟩
    refine RelySteps.cons (RelyStep.mk [20] [0, 1, 2, 3, 5, 6, 7, 8, 9, 10, 12, 13, 14, 15, 16, 17, 20, 21, 23, 24, 25, 26, 27] rfl rfl rfl (fun xv wS hS hV bq hb K hK => ?_)) ?_
    · obtain ⟨h20, _⟩ := hV
      have h20 : xv 20 = _ := h20
      simp only [putsOf, List.foldl_cons, List.foldl_nil, List.getD_cons_zero, List.getD_cons_succ, List.getD_nil, cond_true, cond_false, Act.put, List.setIfInBounds_toArray, List.set_cons_zero, List.set_cons_succ, h20] at hb
      clear h20
      subst hb
      rw [if_pos (by rfl)]
      go_wp2_with fail
      exact hK.out _ _ ⟨_, rfl, hS, rfl, AllP.same _⟩
    refine RelySteps.cons (RelyStep.mk [0] [1, 2, 3, 4, 5, 6, 7, 8, 9, 10, 11, 12, 13, 14, 15, 16, 17, 18, 19, 20, 21, 25, 26, 27] rfl rfl rfl (fun xv wS hS hV bq hb K hK => ?_)) ?_
    · obtain ⟨h0, _⟩ := hV
      have h0 : xv 0 = _ := h0
      simp only [putsOf, List.foldl_cons, List.foldl_nil, List.getD_cons_zero, List.getD_cons_succ, List.getD_nil, cond_true, cond_false, Act.put, List.setIfInBounds_toArray, List.set_cons_zero, List.set_cons_succ, h0] at hb
      clear h0
      subst hb
      rw [if_pos (by rfl)]
      go_wp2_with fail
      exact hK.out _ _ ⟨_, rfl, hS, rfl, AllP.same _⟩
    refine RelySteps.cons (RelyStep.mk [23] [1, 2, 3, 4, 5, 6, 7, 8, 9, 10, 11, 12, 13, 14, 15, 16, 17, 18, 19, 20, 21, 26, 27] rfl rfl rfl (fun xv wS hS hV bq hb K hK => ?_)) ?_
    · obtain ⟨h23, _⟩ := hV
      have h23 : xv 23 = _ := h23
      simp only [putsOf, List.foldl_cons, List.foldl_nil, List.getD_cons_zero, List.getD_cons_succ, List.getD_nil, cond_true, cond_false, Act.put, List.setIfInBounds_toArray, List.set_cons_zero, List.set_cons_succ, h23] at hb
      clear h23
      subst hb
      rw [if_pos (by rfl)]
      go_wp2_with fail
      exact hK.out _ _ ⟨_, rfl, hS, rfl, AllP.same _⟩
    refine RelySteps.cons (RelyStep.mk [24, 2] [20, 21, 27] rfl rfl rfl (fun xv wS hS hV bq hb K hK => ?_)) ?_
    · obtain ⟨h24, h2, _⟩ := hV
      have h24 : xv 24 = _ := h24
      have h2 : xv 2 = _ := h2
      simp only [putsOf, List.foldl_cons, List.foldl_nil, List.getD_cons_zero, List.getD_cons_succ, List.getD_nil, cond_true, cond_false, Act.put, List.setIfInBounds_toArray, List.set_cons_zero, List.set_cons_succ, h24, h2] at hb
      clear h24
      clear h2
      subst hb
      rw [if_pos (by rfl)]
      go_wp2_with fail
      exact hK.out _ _ ⟨_, rfl, hS, rfl, AllP.same _⟩
    refine RelySteps.cons (RelyStep.mk [25, 21, 27] [0, 20] rfl rfl rfl (fun xv wS hS hV bq hb K hK => ?_)) ?_
    · obtain ⟨h25, h21, h27, _⟩ := hV
      have h25 : xv 25 = _ := h25
      have h21 : xv 21 = _ := h21
      simp only [putsOf, List.foldl_cons, List.foldl_nil, List.getD_cons_zero, List.getD_cons_succ, List.getD_nil, cond_true, cond_false, Act.put, List.setIfInBounds_toArray, List.set_cons_zero, List.set_cons_succ, h25, h21] at hb
      clear h25
      clear h21
      generalize xv 27 = y27 at *
      subst hb
      rw [if_pos (by rfl)]
      have HSS := Lib.hid hS
      have q1 : Lies wS g 27 (thC x v) := h27
      have HQ := Lib.hid q1
      have c9 := (q1.cell (5 + an)).trans (thC_reg x v ha8)
      have f9 := q1.free (5 + an)
      have c8 := q1.lt
      clear hS q1 h27
      go_wp2_with fail
      exact hK.out _ _ ⟨undef, rfl, ⟨HSS.out.1.trans (Kept.put wS g (5 + an) _) (fun _ _ e => e), HSS.out.2.far (p := ⟨g, 5 + an, none⟩) hkn.out _⟩, (by have := HQ.out.put (5 + an) (.int .u64 (un : Int)); rw [thC_set x v ha8] at this; exact this), AllP.of _ (fun j hj u h => plV_low (all_in plLow rfl hj) h)⟩
    exact RelySteps.nil
  case rE =>
    intro xv wE hS hV
    have h20 := hV 20 (by decide) (by decide)
    have h26 := hV 26 (by decide) (by decide)
    clear hV
    simp only [putsOf, List.foldl_cons, List.foldl_nil, List.getD_cons_zero, List.getD_cons_succ, List.getD_nil, cond_true, cond_false, Act.put, List.setIfInBounds_toArray, List.set_cons_zero, List.set_cons_succ]
    have h20 : xv 20 = _ := h20
    rw [h20]; clear h20
    generalize xv 0 = y0 at *
    generalize xv 1 = y1 at *
    generalize xv 2 = y2 at *
    generalize xv 3 = y3 at *
    generalize xv 4 = y4 at *
    generalize xv 5 = y5 at *
    generalize xv 6 = y6 at *
    generalize xv 7 = y7 at *
    generalize xv 8 = y8 at *
    generalize xv 9 = y9 at *
    generalize xv 10 = y10 at *
    generalize xv 11 = y11 at *
    generalize xv 12 = y12 at *
    generalize xv 13 = y13 at *
    generalize xv 14 = y14 at *
    generalize xv 15 = y15 at *
    generalize xv 16 = y16 at *
    generalize xv 17 = y17 at *
    generalize xv 18 = y18 at *
    generalize xv 19 = y19 at *
    generalize xv 21 = y21 at *
    generalize xv 22 = y22 at *
    generalize xv 23 = y23 at *
    generalize xv 24 = y24 at *
    generalize xv 25 = y25 at *
    generalize xv 26 = y26 at *
    have HG2 : Hid (Lies wE g 27 (thC (setR x an un) v)) := h26
    have HKR := Lib.hid hS.1
    clear hS h26 HS0
    have s0 := (HG2.out.cell 0).trans (show _ = some (Value.int .i64 x.at_) from rfl)
    have sl := HG2.out.lt
    have sf := HG2.out.free 0
    have HG3 := Lib.hid (HG2.out.put 0 (.int .i64 ((x.at_ + 1))))
    have HK3 := Lib.hid (((HBK.out.trans HKR.out (fun _ _ e => e))).trans (Kept.put wE g 0 (.int .i64 ((x.at_ + 1)))) (fun _ _ e => e))
    go_wp2
    go_end0
    refine ⟨rfl, ?_, HK3.out⟩
    rw [HS1.out]
    exact HG3.out
end Go.Proofs.Ytiegmpjoiekekaa
