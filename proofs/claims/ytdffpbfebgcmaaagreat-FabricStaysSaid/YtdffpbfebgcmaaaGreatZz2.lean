import Derived.Test.YtdffpbfebgcmaaaGreatZz1
namespace Go.Proofs.YtdffpbfebgcmaaaGreat
open Go.RowKit
set_option linter.unusedVariables false
set_option linter.unusedSimpArgs false
def PlPost (g : Nat) (x : Th) (v : Value) (w : World) (e : Ending) (w' : World) : Prop := e = .returned (.tuple #[]) ∧ Lies w' g 73 (thC x v) ∧ Kept (oneRow g) w w'
def plV (g bi an bn cn on un : Nat) (iso : Bool) (x : Th) (v : Value) : Nat → Value → World → Prop
 | 0, u, _ => u = .pointer (some ⟨g, 0, none⟩)
 | 1, u, _ => u = .pointer (some ⟨bi, 1, none⟩)
 | 2, u, _ => u = .int .i64 (an : Int)
 | 3, u, _ => u = .pointer (some ⟨bi, 0, none⟩)
 | 4, u, _ => u = .int .i64 (on : Int)
 | 5, u, _ => u = .pointer (some ⟨g, 0, none⟩)
 | 6, u, _ => u = .pointer (some ⟨bi, 2, none⟩)
 | 7, u, _ => u = .int .i64 (bn : Int)
 | 8, u, _ => u = .pointer (some ⟨g, 0, none⟩)
 | 9, u, _ => u = .pointer (some ⟨g, 5, none⟩)
 | 10, u, _ => u = .pointer (some ⟨g, 5 + bn, none⟩)
 | 11, u, _ => u = .int .u64 (x.r bn : Int)
 | 12, u, _ => u = .pointer (some ⟨g, 0, none⟩)
 | 13, u, _ => u = .pointer (some ⟨bi, 3, none⟩)
 | 14, u, _ => u = .int .i64 (cn : Int)
 | 15, u, _ => u = .pointer (some ⟨g, 0, none⟩)
 | 16, u, _ => u = .pointer (some ⟨g, 5, none⟩)
 | 17, u, _ => u = .pointer (some ⟨g, 5 + cn, none⟩)
 | 18, u, _ => u = .int .u64 (x.r cn : Int)
 | 19, u, _ => u = .tuple #[.int .u64 (un : Int), .bool iso]
 | 20, u, _ => u = .tuple #[.int .u64 (un : Int), .bool iso]
 | 21, u, _ => u = .int .u64 (un : Int)
 | 22, u, _ => u = .bool iso
 | 23, u, _ => u = .pointer (some ⟨g, 0, none⟩)
 | 24, u, _ => u = .pointer (some ⟨g, 5, none⟩)
 | 25, u, _ => u = .pointer (some ⟨g, 5 + an, none⟩)
 | 26, _, q => Lies q g 73 (thC (setR x an un) v)
 | 27, _, q => Lies q g 73 (thC x v)
 | _, _, _ => True
def plLow (j : Nat) : Bool := decide (j < 26) || decide (28 ≤ j)
theorem plV_low {g bi an bn cn on un : Nat} {iso : Bool} {x : Th} {v : Value} {w w' : World} {j : Nat} {u : Value} (hj : plLow j = true) (h : plV g bi an bn cn on un iso x v j u w) : plV g bi an bn cn on un iso x v j u w' := by
 match j with
 | 0 => exact h
 | 1 => exact h
 | 2 => exact h
 | 3 => exact h
 | 4 => exact h
 | 5 => exact h
 | 6 => exact h
 | 7 => exact h
 | 8 => exact h
 | 9 => exact h
 | 10 => exact h
 | 11 => exact h
 | 12 => exact h
 | 13 => exact h
 | 14 => exact h
 | 15 => exact h
 | 16 => exact h
 | 17 => exact h
 | 18 => exact h
 | 19 => exact h
 | 20 => exact h
 | 21 => exact h
 | 22 => exact h
 | 23 => exact h
 | 24 => exact h
 | 25 => exact h
 | 26 => simp [plLow] at hj
 | 27 => simp [plLow] at hj
 | _ + 28 => trivial
set_option maxHeartbeats 8000000 in
set_option maxRecDepth 100000 in
theorem plain_any16 (i : In) (x : Th) (v : Value) (g : Nat) (w : World) (h : Lies w g 73 (thC x v)) (hr : rightB i = true) (h1 : 1 ≤ i.op) (h17 : i.op ≤ 17) (h0 : 0 ≤ x.at_) (h256 : x.at_ ≤ 256) (hx : ∀ j, x.r j ≤ 18446744073709551615) (hk : i.k ≤ 18446744073709551615) :
  Calls Tryz.prog 139 #[.agg (inC i), .pointer (some ⟨g, 0, none⟩)] w (PlPost g (stepT i x) v w) := by
 obtain ⟨⟨a0, a7⟩, ⟨b0, b7⟩, ⟨q0, q7⟩, hk15⟩ := plain_regs hr h1 h17
 obtain ⟨an, han⟩ : ∃ n : Nat, i.a = n := ⟨i.a.toNat, by omega⟩
 obtain ⟨bn, hbn⟩ : ∃ n : Nat, i.b = n := ⟨i.b.toNat, by omega⟩
 obtain ⟨cn, hcn⟩ : ∃ n : Nat, i.c = n := ⟨i.c.toNat, by omega⟩
 obtain ⟨on, hon⟩ : ∃ n : Nat, i.op = n := ⟨i.op.toNat, by omega⟩
 have hb0 : Below w.heap.size w (w.alloc (.cells (inC i) 122)) := (Below.refl _ _).alloc (Nat.le_refl _) _
 have l0 := Lies.made w 122 (inC i)
 have lg := h.below hb0 h.lt
 have c0 := (lg.cell 0).trans (show _ = some (Value.int .i64 x.at_) from rfl)
 have cl := lg.lt
 have HBK := Lib.hid ((Kept.of_below hb0).mono (T := oneRow g) (fun _ _ (e : False) => e.elim))
 have HB := Lib.hid hb0
 have HL := Lib.hid l0
 have HG := Lib.hid lg
 have hkn : Hid (w.heap.size ≠ g) := by have := h.lt; show _ ≠ _; omega
 have ha8 : an < 8 := by omega
 have hb8 : bn < 8 := by omega
 have hc8 : cn < 8 := by omega
 have HA := Lib.hid han
 have HBN := Lib.hid hbn
 have HCN := Lib.hid hcn
 have HON := Lib.hid hon
 have hon1 : 1 ≤ on ∧ on ≤ 17 := by omega
 have HGB : Hid (g < w.heap.size) := h.lt
 clear hb0 l0 lg h hr han hbn hcn hon h1 h17 a0 a7 b0 b7 q0 q7
 obtain ⟨bi, hbi⟩ : ∃ n, w.heap.size = n := ⟨_, rfl⟩
 rw [hbi] at HL hkn
 go_enter Tryz.func139, Tryz.ntmps139
 go_upto_region 2 with (fail)
 try simp only [hbi]
 clear c0 cl hbi
 generalize w.alloc (.cells (inC i) 122) = w1 at *
 have d0 := (HL.out.cell 0).trans (show _ = some (Value.int .i64 i.op) from rfl)
 have d1 := (HL.out.cell 1).trans (show _ = some (Value.int .i64 i.a) from rfl)
 have d2 := (HL.out.cell 2).trans (show _ = some (Value.int .i64 i.b) from rfl)
 have d3 := (HL.out.cell 3).trans (show _ = some (Value.int .i64 i.c) from rfl)
 have d5 := (HL.out.cell 5).trans (show _ = some (Value.int .u64 (i.k : Int)) from rfl)
 have dl := HL.out.lt
 rw [HA.out] at d1
 rw [HBN.out] at d2
 rw [HCN.out] at d3
 rw [HON.out] at d0
 by_cases o1 : on = 1
 ·subst o1
  have HS1 : Hid (stepT i x = setR (goOn x) an i.k) := by
   show _ = _
   unfold stepT
   rw [HON.out, HA.out]
   simp
  have ra := (HG.out.cell (5 + an)).trans (thC_reg x v ha8)
  have rl := HG.out.lt
  have rf := HG.out.free (5 + an)
  go_wp2
  go_region
  have HG2 := Lib.hid (show Lies (w1.setCell ⟨g, 5 + an, none⟩ (.int .u64 (i.k : Int))).drew g 73 (thC (setR x an i.k) v) from by have := (HG.out.put (5 + an) (.int .u64 (i.k : Int))).drew; rwa [thC_set x v ha8] at this)
  have HK2 := Lib.hid ((Kept.put w1 g (5 + an) (.int .u64 (i.k : Int))).trans (Kept.drew noRow _) (fun _ _ h => h.elim))
  clear ra rl rf
  generalize (w1.setCell ⟨g, 5 + an, none⟩ (.int .u64 (i.k : Int))).drew = w2 at *
  have s0 := (HG2.out.cell 0).trans (show _ = some (Value.int .i64 x.at_) from rfl)
  have sl := HG2.out.lt
  have sf := HG2.out.free 0
  have HG3 := Lib.hid (HG2.out.put 0 (.int .i64 ((x.at_ + 1))))
  have HK3 := Lib.hid (((HBK.out.trans HK2.out (fun _ _ e => e))).trans (Kept.put w2 g 0 (.int .i64 ((x.at_ + 1)))) (fun _ _ e => e))
  go_wp2
  go_end0
  refine ⟨rfl, ?_, HK3.out⟩
  rw [HS1.out]
  exact HG3.out
 by_cases o2 : on = 2
 ·subst o2
  have HS1 : Hid (stepT i x = setR (goOn x) an (x.r bn)) := by
   show _ = _
   unfold stepT
   rw [HON.out, HA.out, HBN.out]
   simp
  have ra := (HG.out.cell (5 + an)).trans (thC_reg x v ha8)
  have rb := (HG.out.cell (5 + bn)).trans (thC_reg x v hb8)
  have rl := HG.out.lt
  have rf := HG.out.free (5 + an)
  go_wp2
  go_region
  have HG2 := Lib.hid (show Lies (w1.setCell ⟨g, 5 + an, none⟩ (.int .u64 (x.r bn : Int))).drew g 73 (thC (setR x an (x.r bn)) v) from by have := (HG.out.put (5 + an) (.int .u64 (x.r bn : Int))).drew; rwa [thC_set x v ha8] at this)
  have HK2 := Lib.hid ((Kept.put w1 g (5 + an) (.int .u64 (x.r bn : Int))).trans (Kept.drew noRow _) (fun _ _ h => h.elim))
  clear ra rb rl rf
  generalize (w1.setCell ⟨g, 5 + an, none⟩ (.int .u64 (x.r bn : Int))).drew = w2 at *
  have s0 := (HG2.out.cell 0).trans (show _ = some (Value.int .i64 x.at_) from rfl)
  have sl := HG2.out.lt
  have sf := HG2.out.free 0
  have HG3 := Lib.hid (HG2.out.put 0 (.int .i64 ((x.at_ + 1))))
  have HK3 := Lib.hid (((HBK.out.trans HK2.out (fun _ _ e => e))).trans (Kept.put w2 g 0 (.int .i64 ((x.at_ + 1)))) (fun _ _ e => e))
  go_wp2
  go_end0
  refine ⟨rfl, ?_, HK3.out⟩
  rw [HS1.out]
  exact HG3.out
 by_cases o15 : on = 15
 ·subst o15
  have HS1 : Hid (stepT i x = { x with at_ := (i.k : Int) }) := by
   show _ = _
   unfold stepT
   rw [HON.out]
   simp
  have hk2 : i.k ≤ 256 := hk15 (by rw [HON.out]; decide)
  have hwk : IntKind.i64.wrap (i.k : Int) = (i.k : Int) := IntWalk.i64_in _ (by omega)
  have HKR := Lib.hid (Kept.refl (oneRow g) w1)
  have s0 := (HG.out.cell 0).trans (show _ = some (Value.int .i64 x.at_) from rfl)
  have sl := HG.out.lt
  have sf := HG.out.free 0
  have HG3 := Lib.hid (HG.out.put 0 (.int .i64 ((i.k : Int))))
  have HK3 := Lib.hid (((HBK.out.trans HKR.out (fun _ _ e => e))).trans (Kept.put w1 g 0 (.int .i64 ((i.k : Int)))) (fun _ _ e => e))
  go_wp2
  go_end0
  refine ⟨rfl, ?_, HK3.out⟩
  rw [HS1.out]
  exact HG3.out
 by_cases o16 : on = 16
 ·subst o16
  have hk2 : i.k ≤ 256 := hk15 (by rw [HON.out]; decide)
  have hwk : IntKind.i64.wrap (i.k : Int) = (i.k : Int) := IntWalk.i64_in _ (by omega)
  have ra := (HG.out.cell (5 + an)).trans (thC_reg x v ha8)
  have rl := HG.out.lt
  by_cases hz : x.r an = 0
  ·have HS1 : Hid (stepT i x = { x with at_ := (i.k : Int) }) := by
    show _ = _
    unfold stepT
    rw [HON.out, HA.out]
    simp [hz]
   rw [hz] at ra
   clear hz
   go_wp2
   go_quiet (fail)
   clear ra rl
   have HG2 := Lib.hid (HG.out.drewN nq)
   have HKR := Lib.hid (Kept.drewN (oneRow g) w1 nq)
   have d5 : (w1.drewN nq).cell? _ = _ := d5
   generalize w1.drewN nq = w2 at *
   have s0 := (HG2.out.cell 0).trans (show _ = some (Value.int .i64 x.at_) from rfl)
   have sl := HG2.out.lt
   have sf := HG2.out.free 0
   have HG3 := Lib.hid (HG2.out.put 0 (.int .i64 ((i.k : Int))))
   have HK3 := Lib.hid (((HBK.out.trans HKR.out (fun _ _ e => e))).trans (Kept.put w2 g 0 (.int .i64 ((i.k : Int)))) (fun _ _ e => e))
   go_wp2
   go_end0
   refine ⟨rfl, ?_, HK3.out⟩
   rw [HS1.out]
   exact HG3.out
  ·have HS1 : Hid (stepT i x = goOn x) := by
    show _ = _
    unfold stepT
    rw [HON.out, HA.out]
    simp [hz]
   have hz1 : ((x.r an : Int) == 0) = false := by rw [beq_eq_false_iff_ne]; omega
   have hz2 : (x.r an == 0) = false := by rw [beq_eq_false_iff_ne]; exact hz
   go_wp2
   go_quiet (fail)
   clear ra rl hz hz1 hz2
   have HG2 := Lib.hid (HG.out.drewN nq)
   have HKR := Lib.hid (Kept.drewN (oneRow g) w1 nq)
   generalize w1.drewN nq = w2 at *
   have s0 := (HG2.out.cell 0).trans (show _ = some (Value.int .i64 x.at_) from rfl)
   have sl := HG2.out.lt
   have sf := HG2.out.free 0
   have HG3 := Lib.hid (HG2.out.put 0 (.int .i64 ((x.at_ + 1))))
   have HK3 := Lib.hid (((HBK.out.trans HKR.out (fun _ _ e => e))).trans (Kept.put w2 g 0 (.int .i64 ((x.at_ + 1)))) (fun _ _ e => e))
   go_wp2
   go_end0
   refine ⟨rfl, ?_, HK3.out⟩
   rw [HS1.out]
   exact HG3.out
 by_cases o17 : on = 17
 ·subst o17
  have hk2 : i.k ≤ 256 := hk15 (by rw [HON.out]; decide)
  have hwk : IntKind.i64.wrap (i.k : Int) = (i.k : Int) := IntWalk.i64_in _ (by omega)
  have ra := (HG.out.cell (5 + an)).trans (thC_reg x v ha8)
  have rl := HG.out.lt
  by_cases hz : x.r an = 0
  ·have HS1 : Hid (stepT i x = goOn x) := by
    show _ = _
    unfold stepT
    rw [HON.out, HA.out]
    simp [hz]
   have hz1 : ((x.r an : Int) == 0) = true := by rw [beq_iff_eq]; omega
   have hz2 : (x.r an == 0) = true := by rw [beq_iff_eq]; exact hz
   have hz3 : ((x.r an : Int) != 0) = false := by rw [bne_eq_false_iff_eq]; omega
   have HZ9 := Lib.hid hz
   clear hz
   go_wp2
   go_quiet (fail)
   clear ra rl hz1 hz2 hz3 HZ9
   have HG2 := Lib.hid (HG.out.drewN nq)
   have HKR := Lib.hid (Kept.drewN (oneRow g) w1 nq)
   generalize w1.drewN nq = w2 at *
   have s0 := (HG2.out.cell 0).trans (show _ = some (Value.int .i64 x.at_) from rfl)
   have sl := HG2.out.lt
   have sf := HG2.out.free 0
   have HG3 := Lib.hid (HG2.out.put 0 (.int .i64 ((x.at_ + 1))))
   have HK3 := Lib.hid (((HBK.out.trans HKR.out (fun _ _ e => e))).trans (Kept.put w2 g 0 (.int .i64 ((x.at_ + 1)))) (fun _ _ e => e))
   go_wp2
   go_end0
   refine ⟨rfl, ?_, HK3.out⟩
   rw [HS1.out]
   exact HG3.out
  ·have HS1 : Hid (stepT i x = { x with at_ := (i.k : Int) }) := by
    show _ = _
    unfold stepT
    rw [HON.out, HA.out]
    simp [hz]
   have hz1 : ((x.r an : Int) == 0) = false := by rw [beq_eq_false_iff_ne]; omega
   have hz2 : (x.r an == 0) = false := by rw [beq_eq_false_iff_ne]; exact hz
   have hz3 : ((x.r an : Int) != 0) = true := by rw [bne_iff_ne]; omega
   go_wp2
   go_quiet (fail)
   clear ra rl hz hz1 hz2 hz3
   have HG2 := Lib.hid (HG.out.drewN nq)
   have HKR := Lib.hid (Kept.drewN (oneRow g) w1 nq)
   have d5 : (w1.drewN nq).cell? _ = _ := d5
   generalize w1.drewN nq = w2 at *
   have s0 := (HG2.out.cell 0).trans (show _ = some (Value.int .i64 x.at_) from rfl)
   have sl := HG2.out.lt
   have sf := HG2.out.free 0
   have HG3 := Lib.hid (HG2.out.put 0 (.int .i64 ((i.k : Int))))
   have HK3 := Lib.hid (((HBK.out.trans HKR.out (fun _ _ e => e))).trans (Kept.put w2 g 0 (.int .i64 ((i.k : Int)))) (fun _ _ e => e))
   go_wp2
   go_end0
   refine ⟨rfl, ?_, HK3.out⟩
   rw [HS1.out]
   exact HG3.out
 have hon2 : 3 ≤ on ∧ on ≤ 14 := by omega
 have HS1 : Hid (stepT i x = setR (goOn x) an (doV (on : Int) (x.r bn : Int) (x.r cn : Int)).toNat) := by
  show _ = _
  unfold stepT
  rw [HON.out, HA.out, HBN.out, HCN.out]
  rw [if_neg (by omega), if_neg (by omega), if_neg (by omega), if_neg (by omega), if_neg (by omega)]
  simp
 have HU := Lib.hid (doV_u64 (on : Int) (x.r bn : Int) (x.r cn : Int) ⟨by omega, by have := hx bn; omega⟩ ⟨by omega, by have := hx cn; omega⟩)
 have HDO := Lib.hid (fun w => do_any (on : Int) (x.r bn : Int) (x.r cn : Int) w ⟨by omega, by have := hx bn; omega⟩ ⟨by omega, by have := hx cn; omega⟩)
 obtain ⟨un, hun⟩ : ∃ n : Nat, doV (on : Int) (x.r bn : Int) (x.r cn : Int) = n := ⟨(doV (on : Int) (x.r bn : Int) (x.r cn : Int)).toNat, by have := HU.out; unfold U64 at this; omega⟩
 rw [hun] at HS1 HDO
 rw [Int.toNat_natCast] at HS1
 clear HU hun
 have e1 : ((on : Int) == 1) = false := by rw [beq_eq_false_iff_ne]; omega
 have e2 : ((on : Int) == 2) = false := by rw [beq_eq_false_iff_ne]; omega
 have e15 : ((on : Int) == 15) = false := by rw [beq_eq_false_iff_ne]; omega
 have e16 : ((on : Int) == 16) = false := by rw [beq_eq_false_iff_ne]; omega
 have e17 : ((on : Int) == 17) = false := by rw [beq_eq_false_iff_ne]; omega
 generalize isOp (on : Int) = iso at *
 have ra := (HG.out.cell (5 + an)).trans (thC_reg x v ha8)
 have rb := (HG.out.cell (5 + bn)).trans (thC_reg x v hb8)
 have rc := (HG.out.cell (5 + cn)).trans (thC_reg x v hc8)
 have rl := HG.out.lt
 have rf := HG.out.free (5 + an)
 clear o1 o2 o15 o16 o17 hon1 hon2 hk15
 have HS0 := Lib.hid (show Kept (oneRow g) w1 w1 ∧ Lies w1 bi 122 (inC i) from ⟨Kept.refl _ _, HL.out⟩)
 clear ra rb rc rl rf d1 d2 d3 d5
 go_wp2_with fail
 clear d0 dl
 refine wp_region_rely (fun q => Kept (oneRow g) w1 q ∧ Lies q bi 122 (inC i)) (plV g bi an bn cn on un iso x v) [some 13, some 14, some 15, some 16, some 17, some 18, some 19, some 20, some 21, some 22, some 23, some 24, some 25, some 26, some 27, some 28, some 29, some 30, some 31, some 32, some 12, some 33, some 34, some 35, some 36, some 37, none] [[], [], [1], [], [3], [], [], [6], [5], [8], [9, 7], [10, 27], [], [], [13], [12], [15], [16, 14], [17, 27], [4, 11, 18], [19], [20], [20], [0], [23], [24, 2], [25, 21, 27]] [[22], [22], [1, 22], [22], [3, 22], [22], [22], [6, 22], [5, 22], [5, 8, 22], [6, 7, 8, 9, 22], [7, 9, 10, 22], [22], [22], [13, 22], [12, 22], [12, 15, 22], [13, 14, 15, 16, 22], [14, 16, 17, 22], [3, 4, 10, 11, 17, 18, 22], [4, 11, 18, 19], [19, 22], [19], [0, 22], [0, 22, 23], [1, 2, 3, 4, 5, 6, 7, 8, 9, 10, 11, 12, 13, 14, 15, 16, 17, 18, 19, 22, 23, 24], [1, 2, 3, 4, 5, 6, 7, 8, 9, 10, 11, 12, 13, 14, 15, 16, 17, 18, 19, 21, 22, 24, 25, 27]] [[1, 2, 3, 4, 5, 6, 7, 8, 9, 10, 11, 12, 13, 14, 15, 16, 17, 18, 19, 20, 21, 24, 27], [0, 3, 4, 5, 6, 7, 8, 9, 10, 11, 12, 13, 14, 15, 16, 17, 18, 19, 20, 21, 23, 24, 27], [0, 3, 4, 5, 6, 7, 8, 9, 10, 11, 12, 13, 14, 15, 16, 17, 18, 19, 20, 21, 23, 24, 27], [0, 1, 2, 5, 6, 7, 8, 9, 10, 11, 12, 13, 14, 15, 16, 17, 18, 19, 20, 21, 23, 24, 27], [0, 1, 2, 5, 6, 7, 8, 9, 10, 11, 12, 13, 14, 15, 16, 17, 18, 20, 21, 23, 24, 27], [0, 1, 2, 3, 4, 6, 7, 9, 10, 11, 12, 13, 14, 15, 16, 17, 18, 19, 20, 21, 23, 24, 27], [0, 1, 2, 3, 4, 5, 8, 9, 10, 11, 12, 13, 14, 15, 16, 17, 18, 19, 20, 21, 23, 24, 27], [0, 1, 2, 3, 4, 5, 8, 9, 11, 12, 13, 14, 15, 16, 17, 18, 19, 20, 21, 23, 24, 27], [0, 1, 2, 3, 4, 6, 7, 10, 11, 12, 13, 14, 15, 16, 17, 18, 19, 20, 21, 23, 24, 27], [0, 1, 2, 3, 4, 6, 7, 11, 12, 13, 14, 15, 16, 17, 18, 19, 20, 21, 23, 24, 27], [0, 1, 2, 3, 4, 12, 13, 14, 15, 16, 17, 18, 19, 20, 21, 23, 24, 27], [0, 1, 2, 3, 4, 5, 12, 13, 14, 15, 16, 17, 18, 20, 21, 23, 24, 27], [0, 1, 2, 3, 4, 5, 6, 7, 8, 9, 10, 11, 13, 14, 16, 17, 18, 19, 20, 21, 23, 24, 27], [0, 1, 2, 3, 4, 5, 6, 7, 8, 9, 10, 11, 12, 15, 16, 17, 18, 19, 20, 21, 23, 24, 27], [0, 1, 2, 3, 4, 5, 6, 7, 8, 9, 10, 11, 12, 15, 16, 18, 19, 20, 21, 23, 24, 27], [0, 1, 2, 3, 4, 5, 6, 7, 8, 9, 10, 11, 13, 14, 17, 18, 19, 20, 21, 23, 24, 27], [0, 1, 2, 3, 4, 5, 6, 7, 8, 9, 10, 11, 13, 14, 18, 19, 20, 21, 23, 24, 27], [0, 1, 2, 3, 4, 5, 6, 7, 8, 9, 10, 11, 19, 20, 21, 23, 24, 27], [0, 1, 2, 3, 4, 5, 6, 7, 8, 9, 10, 11, 12, 20, 21, 23, 24, 27], [0, 1, 2, 5, 6, 8, 12, 13, 15, 21, 23, 24, 27], [0, 1, 2, 5, 6, 7, 8, 9, 12, 13, 14, 15, 16, 23, 24, 27], [0, 1, 2, 3, 5, 6, 7, 8, 9, 10, 12, 13, 14, 15, 16, 17, 20, 23, 24, 27], [0, 1, 2, 3, 5, 6, 7, 8, 9, 10, 12, 13, 14, 15, 16, 17, 20, 21, 23, 24, 25, 26, 27], [1, 2, 3, 4, 5, 6, 7, 8, 9, 10, 11, 12, 13, 14, 15, 16, 17, 18, 19, 20, 21, 25, 26, 27], [1, 2, 3, 4, 5, 6, 7, 8, 9, 10, 11, 12, 13, 14, 15, 16, 17, 18, 19, 20, 21, 26, 27], [20, 21, 27], [0, 20]] [0, 1, 2, 3, 4, 5, 6, 7, 8, 9, 10, 11, 12, 13, 14, 15, 16, 17, 18, 19, 20, 21, 22, 23, 24, 25, 26] 28 (by kernel_rfl) (by kernel_rfl) (by kernel_rfl) (by kernel_rfl) ?rS ?rI ?rT ?rE
 case rS => exact ⟨Kept.drewN _ w1 1, HS0.out.2.drewN 1⟩
 case rI =>
  intro j h1 h2
  have h1 : j < 28 := h1
  have h2 : 27 ≤ j := h2
  obtain rfl : j = 27 := by omega
  exact HG.out.drewN 1
 case rT =>
  refine RelySteps.cons (RelyStep.mk [] [1, 2, 3, 4, 5, 6, 7, 8, 9, 10, 11, 12, 13, 14, 15, 16, 17, 18, 19, 20, 21, 24, 27] rfl rfl rfl (fun xv wS hS hV bq hb K hK => ?_)) ?_
  ·clear hV
   simp only [putsOf, List.foldl_cons, List.foldl_nil, List.getD_cons_zero, List.getD_cons_succ, List.getD_nil, cond_true, cond_false, Act.put, List.setIfInBounds_toArray, List.set_cons_zero, List.set_cons_succ] at hb
   subst hb
   rw [if_pos (by rfl)]
   go_wp2_with fail
   exact hK.out _ _ ⟨_, rfl, hS, rfl, AllP.same _⟩
  refine RelySteps.cons (RelyStep.mk [] [0, 3, 4, 5, 6, 7, 8, 9, 10, 11, 12, 13, 14, 15, 16, 17, 18, 19, 20, 21, 23, 24, 27] rfl rfl rfl (fun xv wS hS hV bq hb K hK => ?_)) ?_
  ·clear hV
   simp only [putsOf, List.foldl_cons, List.foldl_nil, List.getD_cons_zero, List.getD_cons_succ, List.getD_nil, cond_true, cond_false, Act.put, List.setIfInBounds_toArray, List.set_cons_zero, List.set_cons_succ] at hb
   subst hb
   rw [if_pos (by rfl)]
   go_wp2_with fail
   exact hK.out _ _ ⟨_, rfl, hS, rfl, AllP.same _⟩
  refine RelySteps.cons (RelyStep.mk [1] [0, 3, 4, 5, 6, 7, 8, 9, 10, 11, 12, 13, 14, 15, 16, 17, 18, 19, 20, 21, 23, 24, 27] rfl rfl rfl (fun xv wS hS hV bq hb K hK => ?_)) ?_
  ·obtain ⟨h1, _⟩ := hV
   have h1 : xv 1 = _ := h1
   simp only [putsOf, List.foldl_cons, List.foldl_nil, List.getD_cons_zero, List.getD_cons_succ, List.getD_nil, cond_true, cond_false, Act.put, List.setIfInBounds_toArray, List.set_cons_zero, List.set_cons_succ, h1] at hb
   clear h1
   subst hb
   rw [if_pos (by rfl)]
   (have c9 := (hS.2.cell 1).trans (show _ = some (Value.int .i64 i.a) from rfl); rw [HA.out] at c9; have c8 := hS.2.lt)
   go_wp2_with fail
   exact hK.out _ _ ⟨_, rfl, hS, rfl, AllP.same _⟩
  refine RelySteps.cons (RelyStep.mk [] [0, 1, 2, 5, 6, 7, 8, 9, 10, 11, 12, 13, 14, 15, 16, 17, 18, 19, 20, 21, 23, 24, 27] rfl rfl rfl (fun xv wS hS hV bq hb K hK => ?_)) ?_
  ·clear hV
   simp only [putsOf, List.foldl_cons, List.foldl_nil, List.getD_cons_zero, List.getD_cons_succ, List.getD_nil, cond_true, cond_false, Act.put, List.setIfInBounds_toArray, List.set_cons_zero, List.set_cons_succ] at hb
   subst hb
   rw [if_pos (by rfl)]
   go_wp2_with fail
   exact hK.out _ _ ⟨_, rfl, hS, rfl, AllP.same _⟩
  refine RelySteps.cons (RelyStep.mk [3] [0, 1, 2, 5, 6, 7, 8, 9, 10, 11, 12, 13, 14, 15, 16, 17, 18, 20, 21, 23, 24, 27] rfl rfl rfl (fun xv wS hS hV bq hb K hK => ?_)) ?_
  ·obtain ⟨h3, _⟩ := hV
   have h3 : xv 3 = _ := h3
   simp only [putsOf, List.foldl_cons, List.foldl_nil, List.getD_cons_zero, List.getD_cons_succ, List.getD_nil, cond_true, cond_false, Act.put, List.setIfInBounds_toArray, List.set_cons_zero, List.set_cons_succ, h3] at hb
   clear h3
   subst hb
   rw [if_pos (by rfl)]
   (have c9 := (hS.2.cell 0).trans (show _ = some (Value.int .i64 i.op) from rfl); rw [HON.out] at c9; have c8 := hS.2.lt)
   go_wp2_with fail
   exact hK.out _ _ ⟨_, rfl, hS, rfl, AllP.same _⟩
  refine RelySteps.cons (RelyStep.mk [] [0, 1, 2, 3, 4, 6, 7, 9, 10, 11, 12, 13, 14, 15, 16, 17, 18, 19, 20, 21, 23, 24, 27] rfl rfl rfl (fun xv wS hS hV bq hb K hK => ?_)) ?_
  ·clear hV
   simp only [putsOf, List.foldl_cons, List.foldl_nil, List.getD_cons_zero, List.getD_cons_succ, List.getD_nil, cond_true, cond_false, Act.put, List.setIfInBounds_toArray, List.set_cons_zero, List.set_cons_succ] at hb
   subst hb
   rw [if_pos (by rfl)]
   go_wp2_with fail
   exact hK.out _ _ ⟨_, rfl, hS, rfl, AllP.same _⟩
  refine RelySteps.cons (RelyStep.mk [] [0, 1, 2, 3, 4, 5, 8, 9, 10, 11, 12, 13, 14, 15, 16, 17, 18, 19, 20, 21, 23, 24, 27] rfl rfl rfl (fun xv wS hS hV bq hb K hK => ?_)) ?_
  ·clear hV
   simp only [putsOf, List.foldl_cons, List.foldl_nil, List.getD_cons_zero, List.getD_cons_succ, List.getD_nil, cond_true, cond_false, Act.put, List.setIfInBounds_toArray, List.set_cons_zero, List.set_cons_succ] at hb
   subst hb
   rw [if_pos (by rfl)]
   go_wp2_with fail
   exact hK.out _ _ ⟨_, rfl, hS, rfl, AllP.same _⟩
  refine RelySteps.cons (RelyStep.mk [6] [0, 1, 2, 3, 4, 5, 8, 9, 11, 12, 13, 14, 15, 16, 17, 18, 19, 20, 21, 23, 24, 27] rfl rfl rfl (fun xv wS hS hV bq hb K hK => ?_)) ?_
  ·obtain ⟨h6, _⟩ := hV
   have h6 : xv 6 = _ := h6
   simp only [putsOf, List.foldl_cons, List.foldl_nil, List.getD_cons_zero, List.getD_cons_succ, List.getD_nil, cond_true, cond_false, Act.put, List.setIfInBounds_toArray, List.set_cons_zero, List.set_cons_succ, h6] at hb
   clear h6
   subst hb
   rw [if_pos (by rfl)]
   (have c9 := (hS.2.cell 2).trans (show _ = some (Value.int .i64 i.b) from rfl); rw [HBN.out] at c9; have c8 := hS.2.lt)
   go_wp2_with fail
   exact hK.out _ _ ⟨_, rfl, hS, rfl, AllP.same _⟩
  refine RelySteps.cons (RelyStep.mk [5] [0, 1, 2, 3, 4, 6, 7, 10, 11, 12, 13, 14, 15, 16, 17, 18, 19, 20, 21, 23, 24, 27] rfl rfl rfl (fun xv wS hS hV bq hb K hK => ?_)) ?_
  ·obtain ⟨h5, _⟩ := hV
   have h5 : xv 5 = _ := h5
   simp only [putsOf, List.foldl_cons, List.foldl_nil, List.getD_cons_zero, List.getD_cons_succ, List.getD_nil, cond_true, cond_false, Act.put, List.setIfInBounds_toArray, List.set_cons_zero, List.set_cons_succ, h5] at hb
   clear h5
   subst hb
   rw [if_pos (by rfl)]
   go_wp2_with fail
   exact hK.out _ _ ⟨_, rfl, hS, rfl, AllP.same _⟩
  refine RelySteps.cons (RelyStep.mk [8] [0, 1, 2, 3, 4, 6, 7, 11, 12, 13, 14, 15, 16, 17, 18, 19, 20, 21, 23, 24, 27] rfl rfl rfl (fun xv wS hS hV bq hb K hK => ?_)) ?_
  ·obtain ⟨h8, _⟩ := hV
   have h8 : xv 8 = _ := h8
   simp only [putsOf, List.foldl_cons, List.foldl_nil, List.getD_cons_zero, List.getD_cons_succ, List.getD_nil, cond_true, cond_false, Act.put, List.setIfInBounds_toArray, List.set_cons_zero, List.set_cons_succ, h8] at hb
   clear h8
   subst hb
   rw [if_pos (by rfl)]
   go_wp2_with fail
   exact hK.out _ _ ⟨_, rfl, hS, rfl, AllP.same _⟩
  refine RelySteps.cons (RelyStep.mk [9, 7] [0, 1, 2, 3, 4, 12, 13, 14, 15, 16, 17, 18, 19, 20, 21, 23, 24, 27] rfl rfl rfl (fun xv wS hS hV bq hb K hK => ?_)) ?_
  ·obtain ⟨h9, h7, _⟩ := hV
   have h9 : xv 9 = _ := h9
   have h7 : xv 7 = _ := h7
   simp only [putsOf, List.foldl_cons, List.foldl_nil, List.getD_cons_zero, List.getD_cons_succ, List.getD_nil, cond_true, cond_false, Act.put, List.setIfInBounds_toArray, List.set_cons_zero, List.set_cons_succ, h9, h7] at hb
   clear h9
   clear h7
   subst hb
   rw [if_pos (by rfl)]
   go_wp2_with fail
   exact hK.out _ _ ⟨_, rfl, hS, rfl, AllP.same _⟩
  refine RelySteps.cons (RelyStep.mk [10, 27] [0, 1, 2, 3, 4, 5, 12, 13, 14, 15, 16, 17, 18, 20, 21, 23, 24, 27] rfl rfl rfl (fun xv wS hS hV bq hb K hK => ?_)) ?_
  ·obtain ⟨h10, h27, _⟩ := hV
   have h10 : xv 10 = _ := h10
   simp only [putsOf, List.foldl_cons, List.foldl_nil, List.getD_cons_zero, List.getD_cons_succ, List.getD_nil, cond_true, cond_false, Act.put, List.setIfInBounds_toArray, List.set_cons_zero, List.set_cons_succ, h10] at hb
   clear h10
   generalize xv 27 = y27 at *
   subst hb
   rw [if_pos (by rfl)]
   (have q1 : Lies wS g _ (thC x v) := h27; have c9 := (q1.cell (5 + bn)).trans (thC_reg x v hb8); have c8 := q1.lt; clear q1 h27)
   go_wp2_with fail
   exact hK.out _ _ ⟨_, rfl, hS, rfl, AllP.same _⟩
  refine RelySteps.cons (RelyStep.mk [] [0, 1, 2, 3, 4, 5, 6, 7, 8, 9, 10, 11, 13, 14, 16, 17, 18, 19, 20, 21, 23, 24, 27] rfl rfl rfl (fun xv wS hS hV bq hb K hK => ?_)) ?_
  ·clear hV
   simp only [putsOf, List.foldl_cons, List.foldl_nil, List.getD_cons_zero, List.getD_cons_succ, List.getD_nil, cond_true, cond_false, Act.put, List.setIfInBounds_toArray, List.set_cons_zero, List.set_cons_succ] at hb
   subst hb
   rw [if_pos (by rfl)]
   go_wp2_with fail
   exact hK.out _ _ ⟨_, rfl, hS, rfl, AllP.same _⟩
  refine RelySteps.cons (RelyStep.mk [] [0, 1, 2, 3, 4, 5, 6, 7, 8, 9, 10, 11, 12, 15, 16, 17, 18, 19, 20, 21, 23, 24, 27] rfl rfl rfl (fun xv wS hS hV bq hb K hK => ?_)) ?_
  ·clear hV
   simp only [putsOf, List.foldl_cons, List.foldl_nil, List.getD_cons_zero, List.getD_cons_succ, List.getD_nil, cond_true, cond_false, Act.put, List.setIfInBounds_toArray, List.set_cons_zero, List.set_cons_succ] at hb
   subst hb
   rw [if_pos (by rfl)]
   go_wp2_with fail
   exact hK.out _ _ ⟨_, rfl, hS, rfl, AllP.same _⟩
  refine RelySteps.cons (RelyStep.mk [13] [0, 1, 2, 3, 4, 5, 6, 7, 8, 9, 10, 11, 12, 15, 16, 18, 19, 20, 21, 23, 24, 27] rfl rfl rfl (fun xv wS hS hV bq hb K hK => ?_)) ?_
  ·obtain ⟨h13, _⟩ := hV
   have h13 : xv 13 = _ := h13
   simp only [putsOf, List.foldl_cons, List.foldl_nil, List.getD_cons_zero, List.getD_cons_succ, List.getD_nil, cond_true, cond_false, Act.put, List.setIfInBounds_toArray, List.set_cons_zero, List.set_cons_succ, h13] at hb
   clear h13
   subst hb
   rw [if_pos (by rfl)]
   (have c9 := (hS.2.cell 3).trans (show _ = some (Value.int .i64 i.c) from rfl); rw [HCN.out] at c9; have c8 := hS.2.lt)
   go_wp2_with fail
   exact hK.out _ _ ⟨_, rfl, hS, rfl, AllP.same _⟩
  refine RelySteps.cons (RelyStep.mk [12] [0, 1, 2, 3, 4, 5, 6, 7, 8, 9, 10, 11, 13, 14, 17, 18, 19, 20, 21, 23, 24, 27] rfl rfl rfl (fun xv wS hS hV bq hb K hK => ?_)) ?_
  ·obtain ⟨h12, _⟩ := hV
   have h12 : xv 12 = _ := h12
   simp only [putsOf, List.foldl_cons, List.foldl_nil, List.getD_cons_zero, List.getD_cons_succ, List.getD_nil, cond_true, cond_false, Act.put, List.setIfInBounds_toArray, List.set_cons_zero, List.set_cons_succ, h12] at hb
   clear h12
   subst hb
   rw [if_pos (by rfl)]
   go_wp2_with fail
   exact hK.out _ _ ⟨_, rfl, hS, rfl, AllP.same _⟩
  refine RelySteps.cons (RelyStep.mk [15] [0, 1, 2, 3, 4, 5, 6, 7, 8, 9, 10, 11, 13, 14, 18, 19, 20, 21, 23, 24, 27] rfl rfl rfl (fun xv wS hS hV bq hb K hK => ?_)) ?_
  ·obtain ⟨h15, _⟩ := hV
   have h15 : xv 15 = _ := h15
   simp only [putsOf, List.foldl_cons, List.foldl_nil, List.getD_cons_zero, List.getD_cons_succ, List.getD_nil, cond_true, cond_false, Act.put, List.setIfInBounds_toArray, List.set_cons_zero, List.set_cons_succ, h15] at hb
   clear h15
   subst hb
   rw [if_pos (by rfl)]
   go_wp2_with fail
   exact hK.out _ _ ⟨_, rfl, hS, rfl, AllP.same _⟩
  refine RelySteps.cons (RelyStep.mk [16, 14] [0, 1, 2, 3, 4, 5, 6, 7, 8, 9, 10, 11, 19, 20, 21, 23, 24, 27] rfl rfl rfl (fun xv wS hS hV bq hb K hK => ?_)) ?_
  ·obtain ⟨h16, h14, _⟩ := hV
   have h16 : xv 16 = _ := h16
   have h14 : xv 14 = _ := h14
   simp only [putsOf, List.foldl_cons, List.foldl_nil, List.getD_cons_zero, List.getD_cons_succ, List.getD_nil, cond_true, cond_false, Act.put, List.setIfInBounds_toArray, List.set_cons_zero, List.set_cons_succ, h16, h14] at hb
   clear h16
   clear h14
   subst hb
   rw [if_pos (by rfl)]
   go_wp2_with fail
   exact hK.out _ _ ⟨_, rfl, hS, rfl, AllP.same _⟩
  refine RelySteps.cons (RelyStep.mk [17, 27] [0, 1, 2, 3, 4, 5, 6, 7, 8, 9, 10, 11, 12, 20, 21, 23, 24, 27] rfl rfl rfl (fun xv wS hS hV bq hb K hK => ?_)) ?_
  ·obtain ⟨h17, h27, _⟩ := hV
   have h17 : xv 17 = _ := h17
   simp only [putsOf, List.foldl_cons, List.foldl_nil, List.getD_cons_zero, List.getD_cons_succ, List.getD_nil, cond_true, cond_false, Act.put, List.setIfInBounds_toArray, List.set_cons_zero, List.set_cons_succ, h17] at hb
   clear h17
   generalize xv 27 = y27 at *
   subst hb
   rw [if_pos (by rfl)]
   (have q1 : Lies wS g _ (thC x v) := h27; have c9 := (q1.cell (5 + cn)).trans (thC_reg x v hc8); have c8 := q1.lt; clear q1 h27)
   go_wp2_with fail
   exact hK.out _ _ ⟨_, rfl, hS, rfl, AllP.same _⟩
  refine RelySteps.cons (RelyStep.mk [4, 11, 18] [0, 1, 2, 5, 6, 8, 12, 13, 15, 21, 23, 24, 27] rfl rfl rfl (fun xv wS hS hV bq hb K hK => ?_)) ?_
  ·obtain ⟨h4, h11, h18, _⟩ := hV
   have h4 : xv 4 = _ := h4
   have h11 : xv 11 = _ := h11
   have h18 : xv 18 = _ := h18
   simp only [putsOf, List.foldl_cons, List.foldl_nil, List.getD_cons_zero, List.getD_cons_succ, List.getD_nil, cond_true, cond_false, Act.put, List.setIfInBounds_toArray, List.set_cons_zero, List.set_cons_succ, h4, h11, h18] at hb
   clear h4
   clear h11
   clear h18
   subst hb
   rw [if_pos (by rfl)]
   have HSS := Lib.hid hS
   clear hS
   go_wp2_with fail
   refine (HDO.out _).mono ?_
   rintro e w' ⟨rfl, rfl⟩
   exact hK.out _ _ ⟨_, rfl, HSS.out, rfl, AllP.same _⟩
  refine RelySteps.cons (RelyStep.mk [19] [0, 1, 2, 5, 6, 7, 8, 9, 12, 13, 14, 15, 16, 23, 24, 27] rfl rfl rfl (fun xv wS hS hV bq hb K hK => ?_)) ?_
  ·obtain ⟨h19, _⟩ := hV
   have h19 : xv 19 = _ := h19
   simp only [putsOf, List.foldl_cons, List.foldl_nil, List.getD_cons_zero, List.getD_cons_succ, List.getD_nil, cond_true, cond_false, Act.put, List.setIfInBounds_toArray, List.set_cons_zero, List.set_cons_succ, h19] at hb
   clear h19
   subst hb
   rw [if_pos (by rfl)]
   go_wp2_with fail
   exact hK.out _ _ ⟨_, rfl, hS, rfl, AllP.same _⟩
  refine RelySteps.cons (RelyStep.mk [20] [0, 1, 2, 3, 5, 6, 7, 8, 9, 10, 12, 13, 14, 15, 16, 17, 20, 23, 24, 27] rfl rfl rfl (fun xv wS hS hV bq hb K hK => ?_)) ?_
  ·obtain ⟨h20, _⟩ := hV
   have h20 : xv 20 = _ := h20
   simp only [putsOf, List.foldl_cons, List.foldl_nil, List.getD_cons_zero, List.getD_cons_succ, List.getD_nil, cond_true, cond_false, Act.put, List.setIfInBounds_toArray, List.set_cons_zero, List.set_cons_succ, h20] at hb
   clear h20
   subst hb
   rw [if_pos (by rfl)]
   go_wp2_with fail
   exact hK.out _ _ ⟨_, rfl, hS, rfl, AllP.same _⟩
  refine RelySteps.cons (RelyStep.mk [20] [0, 1, 2, 3, 5, 6, 7, 8, 9, 10, 12, 13, 14, 15, 16, 17, 20, 21, 23, 24, 25, 26, 27] rfl rfl rfl (fun xv wS hS hV bq hb K hK => ?_)) ?_
  ·obtain ⟨h20, _⟩ := hV
   have h20 : xv 20 = _ := h20
   simp only [putsOf, List.foldl_cons, List.foldl_nil, List.getD_cons_zero, List.getD_cons_succ, List.getD_nil, cond_true, cond_false, Act.put, List.setIfInBounds_toArray, List.set_cons_zero, List.set_cons_succ, h20] at hb
   clear h20
   subst hb
   rw [if_pos (by rfl)]
   go_wp2_with fail
   exact hK.out _ _ ⟨_, rfl, hS, rfl, AllP.same _⟩
  refine RelySteps.cons (RelyStep.mk [0] [1, 2, 3, 4, 5, 6, 7, 8, 9, 10, 11, 12, 13, 14, 15, 16, 17, 18, 19, 20, 21, 25, 26, 27] rfl rfl rfl (fun xv wS hS hV bq hb K hK => ?_)) ?_
  ·obtain ⟨h0, _⟩ := hV
   have h0 : xv 0 = _ := h0
   simp only [putsOf, List.foldl_cons, List.foldl_nil, List.getD_cons_zero, List.getD_cons_succ, List.getD_nil, cond_true, cond_false, Act.put, List.setIfInBounds_toArray, List.set_cons_zero, List.set_cons_succ, h0] at hb
   clear h0
   subst hb
   rw [if_pos (by rfl)]
   go_wp2_with fail
   exact hK.out _ _ ⟨_, rfl, hS, rfl, AllP.same _⟩
  refine RelySteps.cons (RelyStep.mk [23] [1, 2, 3, 4, 5, 6, 7, 8, 9, 10, 11, 12, 13, 14, 15, 16, 17, 18, 19, 20, 21, 26, 27] rfl rfl rfl (fun xv wS hS hV bq hb K hK => ?_)) ?_
  ·obtain ⟨h23, _⟩ := hV
   have h23 : xv 23 = _ := h23
   simp only [putsOf, List.foldl_cons, List.foldl_nil, List.getD_cons_zero, List.getD_cons_succ, List.getD_nil, cond_true, cond_false, Act.put, List.setIfInBounds_toArray, List.set_cons_zero, List.set_cons_succ, h23] at hb
   clear h23
   subst hb
   rw [if_pos (by rfl)]
   go_wp2_with fail
   exact hK.out _ _ ⟨_, rfl, hS, rfl, AllP.same _⟩
  refine RelySteps.cons (RelyStep.mk [24, 2] [20, 21, 27] rfl rfl rfl (fun xv wS hS hV bq hb K hK => ?_)) ?_
  ·obtain ⟨h24, h2, _⟩ := hV
   have h24 : xv 24 = _ := h24
   have h2 : xv 2 = _ := h2
   simp only [putsOf, List.foldl_cons, List.foldl_nil, List.getD_cons_zero, List.getD_cons_succ, List.getD_nil, cond_true, cond_false, Act.put, List.setIfInBounds_toArray, List.set_cons_zero, List.set_cons_succ, h24, h2] at hb
   clear h24
   clear h2
   subst hb
   rw [if_pos (by rfl)]
   go_wp2_with fail
   exact hK.out _ _ ⟨_, rfl, hS, rfl, AllP.same _⟩
  refine RelySteps.cons (RelyStep.mk [25, 21, 27] [0, 20] rfl rfl rfl (fun xv wS hS hV bq hb K hK => ?_)) ?_
  ·obtain ⟨h25, h21, h27, _⟩ := hV
   have h25 : xv 25 = _ := h25
   have h21 : xv 21 = _ := h21
   simp only [putsOf, List.foldl_cons, List.foldl_nil, List.getD_cons_zero, List.getD_cons_succ, List.getD_nil, cond_true, cond_false, Act.put, List.setIfInBounds_toArray, List.set_cons_zero, List.set_cons_succ, h25, h21] at hb
   clear h25
   clear h21
   generalize xv 27 = y27 at *
   subst hb
   rw [if_pos (by rfl)]
   have HSS := Lib.hid hS
   have q1 : Lies wS g 73 (thC x v) := h27
   have HQ := Lib.hid q1
   have c9 := (q1.cell (5 + an)).trans (thC_reg x v ha8)
   have f9 := q1.free (5 + an)
   have c8 := q1.lt
   clear hS q1 h27
   go_wp2_with fail
   exact hK.out _ _ ⟨undef, rfl, ⟨HSS.out.1.trans (Kept.put wS g (5 + an) _) (fun _ _ e => e), HSS.out.2.far (p := ⟨g, 5 + an, none⟩) hkn.out _⟩, (by have := HQ.out.put (5 + an) (.int .u64 (un : Int)); rw [thC_set x v ha8] at this; exact this), AllP.of _ (fun j hj u h => plV_low (all_in plLow rfl hj) h)⟩
  exact RelySteps.nil
 case rE =>
  intro xv wE hS hV
  have h20 := hV 20 (by decide) (by decide)
  have h26 := hV 26 (by decide) (by decide)
  clear hV
  simp only [putsOf, List.foldl_cons, List.foldl_nil, List.getD_cons_zero, List.getD_cons_succ, List.getD_nil, cond_true, cond_false, Act.put, List.setIfInBounds_toArray, List.set_cons_zero, List.set_cons_succ]
  have h20 : xv 20 = _ := h20
  rw [h20]; clear h20
  generalize xv 0 = y0 at *
  generalize xv 1 = y1 at *
  generalize xv 2 = y2 at *
  generalize xv 3 = y3 at *
  generalize xv 4 = y4 at *
  generalize xv 5 = y5 at *
  generalize xv 6 = y6 at *
  generalize xv 7 = y7 at *
  generalize xv 8 = y8 at *
  generalize xv 9 = y9 at *
  generalize xv 10 = y10 at *
  generalize xv 11 = y11 at *
  generalize xv 12 = y12 at *
  generalize xv 13 = y13 at *
  generalize xv 14 = y14 at *
  generalize xv 15 = y15 at *
  generalize xv 16 = y16 at *
  generalize xv 17 = y17 at *
  generalize xv 18 = y18 at *
  generalize xv 19 = y19 at *
  generalize xv 21 = y21 at *
  generalize xv 22 = y22 at *
  generalize xv 23 = y23 at *
  generalize xv 24 = y24 at *
  generalize xv 25 = y25 at *
  generalize xv 26 = y26 at *
  have HG2 : Hid (Lies wE g 73 (thC (setR x an un) v)) := h26
  have HKR := Lib.hid hS.1
  clear hS h26 HS0
  have s0 := (HG2.out.cell 0).trans (show _ = some (Value.int .i64 x.at_) from rfl)
  have sl := HG2.out.lt
  have sf := HG2.out.free 0
  have HG3 := Lib.hid (HG2.out.put 0 (.int .i64 ((x.at_ + 1))))
  have HK3 := Lib.hid (((HBK.out.trans HKR.out (fun _ _ e => e))).trans (Kept.put wE g 0 (.int .i64 ((x.at_ + 1)))) (fun _ _ e => e))
  go_wp2
  go_end0
  refine ⟨rfl, ?_, HK3.out⟩
  rw [HS1.out]
  exact HG3.out
def atT (l : List In) (x : Th) : In := l.getD x.at_.toNat default
def plT (l : List In) (x : Th) : Bool := decide (x.at_ < (l.length : Int)) && (decide (1 ≤ (atT l x).op) && decide ((atT l x).op ≤ 17))
def goT (l : List In) : Nat → Th → Th
 | 0, x => x
 | n + 1, x => if plT l x then goT l n (stepT (atT l x) x) else x
def InvT (l : List In) (x : Th) : Prop := 0 ≤ x.at_ ∧ x.at_ ≤ (l.length : Int) ∧ ∀ j, x.r j ≤ 18446744073709551615
theorem goT_stop {l : List In} {x : Th} (h : plT l x = false) (n : Nat) : goT l n x = x := by
 cases n with
 | zero => rfl
 | succ n => show (if plT l x then _ else x) = x; rw [h]; rfl
theorem goT_step {l : List In} {x : Th} (h : plT l x = true) (n : Nat) : goT l (n + 1) x = goT l n (stepT (atT l x) x) := by
 show (if plT l x then _ else x) = _; rw [h]; rfl
theorem setR_le {x : Th} (h : ∀ j, x.r j ≤ 18446744073709551615) {i u : Nat} (hu : u ≤ 18446744073709551615) : ∀ j, (setR x i u).r j ≤ 18446744073709551615 := by
 intro j
 show (if j = i then u else x.r j) ≤ _
 split
 ·exact hu
 ·exact h j
theorem codeB_parts {l : List In} (h : codeB l = true) : l.length ≤ 256 ∧ ∀ y ∈ l, rightB y = true ∧ (jumpsB y.op = true → y.k ≤ l.length) := by
 unfold codeB at h
 rw [Bool.and_eq_true, decide_eq_true_eq, List.all_eq_true] at h
 refine ⟨h.1, fun y hy => ?_⟩
 have := h.2 y hy
 unfold cdX at this
 rw [Bool.and_eq_true, Bool.not_eq_true', Bool.and_eq_false_iff] at this
 refine ⟨this.1, fun hj => ?_⟩
 rcases this.2 with e | e
 ·rw [hj] at e; cases e
 ·rw [decide_eq_false_iff_not] at e; omega
theorem step_inv {l : List In} {x : Th} {i : In} (hi : InvT l x) (hlt : x.at_ < (l.length : Int)) (hk : i.k ≤ 18446744073709551615) (hj : jumpsB i.op = true → i.k ≤ l.length) : InvT l (stepT i x) := by
 obtain ⟨h0, h1, h2⟩ := hi
 have hg : 0 ≤ (goOn x).at_ ∧ (goOn x).at_ ≤ (l.length : Int) := by show 0 ≤ x.at_ + 1 ∧ x.at_ + 1 ≤ _; omega
 have hjump : jumpsB i.op = true → InvT l { x with at_ := (i.k : Int) } := fun e => ⟨by show (0 : Int) ≤ (i.k : Int); omega, by have := hj e; show (i.k : Int) ≤ _; omega, h2⟩
 unfold stepT
 split
 ·exact ⟨hg.1, hg.2, setR_le h2 hk⟩
 split
 ·exact ⟨hg.1, hg.2, setR_le h2 (h2 _)⟩
 split
 case isTrue h => exact hjump (by rw [h]; rfl)
 split
 case isTrue h =>
  split
  ·exact hjump (by rw [h]; rfl)
  ·exact ⟨hg.1, hg.2, h2⟩
 split
 case isTrue h =>
  split
  ·exact hjump (by rw [h]; rfl)
  ·exact ⟨hg.1, hg.2, h2⟩
 refine ⟨hg.1, hg.2, setR_le h2 ?_⟩
 have hb := h2 i.b.toNat
 have hc := h2 i.c.toNat
 have := doV_u64 i.op (x.r i.b.toNat : Int) (x.r i.c.toNat : Int) ⟨by omega, by omega⟩ ⟨by omega, by omega⟩
 unfold U64 at this
 omega
theorem step_rest (i : In) (x : Th) : (stepT i x).ph = x.ph ∧ (stepT i x).rg = x.rg ∧ (stepT i x).st = x.st ∧ (stepT i x).tk = x.tk ∧ (stepT i x).sn = x.sn := by
 unfold stepT
 (repeat' split) <;> exact ⟨rfl, rfl, rfl, rfl, rfl⟩
theorem goT_rest (l : List In) (n : Nat) : ∀ x, (goT l n x).ph = x.ph ∧ (goT l n x).rg = x.rg ∧ (goT l n x).st = x.st ∧ (goT l n x).tk = x.tk ∧ (goT l n x).sn = x.sn := by
 induction n with
 | zero => exact fun _ => ⟨rfl, rfl, rfl, rfl, rfl⟩
 | succ n ih =>
  intro x
  obtain ⟨a1, a2, a3, a4, a5⟩ := step_rest (atT l x) x
  obtain ⟨b1, b2, b3, b4, b5⟩ := ih (stepT (atT l x) x)
  cases hp : plT l x with
  | false => rw [goT_stop hp]; exact ⟨rfl, rfl, rfl, rfl, rfl⟩
  | true => rw [goT_step hp]; exact ⟨b1.trans a1, b2.trans a2, b3.trans a3, b4.trans a4, b5.trans a5⟩
theorem atT_get {l : List In} {x : Th} {an : Nat} {i : In} (ha : x.at_ = an) (hi : l[an]? = some i) : atT l x = i := by
 unfold atT
 rw [ha, Int.toNat_natCast, List.getD_eq_getElem?_getD, hi]; rfl
theorem goT_inv {l : List In} (hc : codeB l = true) (hok : ∀ i ∈ l, inOk i) (n : Nat) : ∀ x, InvT l x → InvT l (goT l n x) := by
 obtain ⟨hlen, hall⟩ := codeB_parts hc
 induction n with
 | zero => exact fun _ h => h
 | succ n ih =>
  intro x hx
  cases hp : plT l x with
  | false => rw [goT_stop hp]; exact hx
  | true =>
   rw [goT_step hp]
   refine ih _ ?_
   have hp2 := hp
   unfold plT at hp2
   rw [Bool.and_eq_true, decide_eq_true_eq] at hp2
   obtain ⟨h0, h1, h2⟩ := id hx
   obtain ⟨an, han⟩ : ∃ n : Nat, x.at_ = n := ⟨x.at_.toNat, by omega⟩
   obtain ⟨i, hi⟩ : ∃ i, l[an]? = some i := ⟨_, List.getElem?_eq_getElem (by omega)⟩
   have hm := List.mem_of_getElem? hi
   rw [atT_get han hi]
   exact step_inv hx hp2.1 (hok i hm).2.2.2.2.2 (hall i hm).2
set_option maxHeartbeats 8000000 in
set_option maxRecDepth 100000 in
theorem advance16 (l : List In) (A : Option Addr) (c : Nat) (x : Th) (v : Value) (g : Nat) (w0 w : World) (h : InsAt w0 A c l) (hok : ∀ i ∈ l, inOk i) (hcd : codeB l = true) (hb : Below w0.heap.size w0 w) (hg : w0.heap.size ≤ g)
  (hl : Lies w g 73 (thC x v)) (hx : InvT l x) :
  Calls Tryz.prog 112 #[.slice A l.length c, .pointer (some ⟨g, 0, none⟩)] w (PlPost g (goT l 256 x) v w) := by
 obtain ⟨hc1, hc2⟩ := seq_form h
 obtain ⟨hlen, hall⟩ := codeB_parts hcd
 have HH := Lib.hid h
 have HB0 := Lib.hid hb
 have HWS := Lib.hid hb.size
 have HGG := Lib.hid hg
 have HL := Lib.hid hl
 have HX := Lib.hid hx
 have HALL := Lib.hid hall
 have HOK := Lib.hid hok
 have HBK := Lib.hid (fun (q : World) (hq : Kept (oneRow g) w q) => hb.trans (hq.below hb.size (fun k hk (e : k = g) => by omega)))
 clear h hb hg hl hx hall hok hcd HB0
 go_enter Tryz.func112, Tryz.ntmps112
 go_wp2_with fail
 go_loopw [4] (fun u wr => ∃ (k : Nat) (y : Th), k ≤ 256 ∧ u = .int .i64 k ∧ Hid (goT l 256 x = goT l (256 - k) y) ∧ Hid (InvT l y) ∧ Hid (Lies wr g 73 (thC y v)) ∧ Hid (Kept (oneRow g) w wr)) (fun u _ => 256 - (intOf u).toNat)
 case atStart => exact ⟨0, x, by omega, rfl, Lib.hid rfl, HX, HL, Lib.hid (Kept.refl _ _)⟩
 case round =>
  clear HL HX
  obtain ⟨k, y, hk, rfl, HGT, HI, HL, HK⟩ := hrel
  by_cases hlt : k < 256
  ·have hki : (k : Int) < 256 := by omega
   have HB := Lib.hid (HBK.out _ HK.out)
   have c0 := (HL.out.cell 0).trans (show _ = some (Value.int .i64 y.at_) from rfl)
   have cl := HL.out.lt
   have hi0 := HI.out.1
   have hi1 := HI.out.2.1
   by_cases hat : y.at_ = (l.length : Int)
   ·have e1 : (y.at_ == (l.length : Int)) = true := by rw [beq_iff_eq]; exact hat
    have HPE : Hid (goT l 256 x = y) := HGT.out.trans (goT_stop (by unfold plT; rw [decide_eq_false (by omega)]; rfl) _)
    rw [hat] at c0
    clear hat HGT
    go_wp2
    first | go_end0 | refine bodyPost_ret (results_none rfl _ _ _) rfl ?_
    exact ⟨rfl, by rw [HPE.out]; exact HL.out, HK.out⟩
   have e1 : (y.at_ == (l.length : Int)) = false := by rw [beq_eq_false_iff_ne]; exact hat
   obtain ⟨an, han⟩ : ∃ n : Nat, y.at_ = n := ⟨y.at_.toNat, by omega⟩
   obtain ⟨i, hi⟩ : ∃ i, l[an]? = some i := ⟨_, List.getElem?_eq_getElem (by omega)⟩
   have HAT := Lib.hid (atT_get han hi)
   have HM := Lib.hid (List.mem_of_getElem? hi)
   obtain ⟨b, off, rfl, hbl, hg⟩ := InsAt.at_ HH.out hi
   have HG := Lib.hid (fun (q : World) (hq : Below w0.heap.size w0 q) (j : Nat) (u : Value) (hj : j < 6) (hu : (inF i)[j]? = some u) => cell_later (hg j u hj hu) hq)
   have hal : (an : Int) < (l.length : Int) := by omega
   rw [han] at c0 e1
   have HAN := Lib.hid han
   clear hg hi hat han hi0 hi1
   have g0 := HG.out _ (HB).out 0 _ (by decide) rfl
   have g1 := HG.out _ (HB).out 1 _ (by decide) rfl
   have g2 := HG.out _ (HB).out 2 _ (by decide) rfl
   have g3 := HG.out _ (HB).out 3 _ (by decide) rfl
   have g4 := HG.out _ (HB).out 4 _ (by decide) rfl
   have g5 := HG.out _ (HB).out 5 _ (by decide) rfl
   rw [Nat.add_zero] at g0
   have HPL := Lib.hid (fun w => plain_any i.op w)
   obtain ⟨pb, hpb⟩ : ∃ b, (decide (1 ≤ i.op) && decide (i.op ≤ 17)) = b := ⟨_, rfl⟩
   have hpt : plT l y = pb := by unfold plT; rw [HAT.out, hpb, HAN.out, decide_eq_true hal]; rfl
   rw [hpb] at HPL
   have HPT := Lib.hid hpt
   have HPB := Lib.hid hpb
   clear hpb hpt
   go_wp2_with fail
   refine (HPL.out _).mono ?_
   rintro e w3 ⟨rfl, rfl⟩
   cases pb with
   | false =>
    have HPE : Hid (goT l 256 x = y) := HGT.out.trans (goT_stop HPT.out _)
    clear HGT
    go_wp2
    first | go_end0 | refine bodyPost_ret (results_none rfl _ _ _) rfl ?_
    exact ⟨rfl, by rw [HPE.out]; exact HL.out, HK.out⟩
   | true =>
    have hop := HPB.out
    rw [Bool.and_eq_true, decide_eq_true_eq, decide_eq_true_eq] at hop
    have HST := Lib.hid (fun q hq => plain_any16 i y v g q hq (HALL.out i HM.out).1 hop.1 hop.2 HI.out.1 (by have := HI.out.2.1; omega) HI.out.2.2 (HOK.out i HM.out).2.2.2.2.2)
    have HI2 := Lib.hid (step_inv (i := i) HI.out (by rw [HAN.out]; exact hal) (HOK.out i HM.out).2.2.2.2.2 (HALL.out i HM.out).2)
    have HGT2 : Hid (goT l 256 x = goT l (256 - (k + 1)) (stepT i y)) := by
     have := goT_step HPT.out (256 - (k + 1))
     rw [show 256 - (k + 1) + 1 = 256 - k by omega, HAT.out] at this
     exact HGT.out.trans this
    clear hop HGT HI
    go_wp2_with fail
    refine (HST.out _ HL.out).mono ?_
    rintro e w4 ⟨rfl, hl4, hk4⟩
    have HL4 := Lib.hid hl4
    have HK4 := Lib.hid (HK.out.trans hk4 (fun _ _ e => e))
    clear hl4 hk4 HST g0 g1 g2 g3 g4 g5 c0
    go_wp2
    go_roundw
    case rel => exact ⟨k + 1, stepT i y, by omega, by go_num, HGT2, HI2, HL4, HK4⟩
    case measure => simp [intOf]; omega
  ·obtain rfl : k = 256 := by omega
   have HPE : Hid (goT l 256 x = y) := HGT.out
   clear HGT
   go_wp2
   first | go_end0 | refine bodyPost_ret (results_none rfl _ _ _) rfl ?_
   exact ⟨rfl, by rw [HPE.out]; exact HL.out, HK.out⟩
def reqA (l : List In) (x : Th) : Ak :=
 if x.st ≠ 0 then noneA 0
 else if x.at_ = (l.length : Int) then noneA 8
 else if x.ph = 1 then ⟨10, x.rg, 0, 0, x.tk, x.r (atT l x).a.toNat⟩
 else if x.ph = 2 then ⟨11, x.rg, 0, wrap64 ((atT l x).k : Int), x.tk, 0⟩
 else if (decide (1 ≤ (atT l x).op) && decide ((atT l x).op ≤ 17)) = true then noneA 9
 else visA (atT l x) x
theorem reqA_st {l : List In} {x : Th} (h : x.st ≠ 0) : reqA l x = noneA 0 := by unfold reqA; rw [if_pos h]
theorem reqA_end {l : List In} {x : Th} (h : x.st = 0) (h2 : x.at_ = (l.length : Int)) : reqA l x = noneA 8 := by unfold reqA; rw [if_neg (by omega), if_pos h2]
theorem reqA_in {l : List In} {x : Th} {i : In} (h : x.st = 0) (h2 : x.at_ ≠ (l.length : Int)) (ha : atT l x = i) : reqA l x = if x.ph = 1 then ⟨10, x.rg, 0, 0, x.tk, x.r i.a.toNat⟩ else if x.ph = 2 then ⟨11, x.rg, 0, wrap64 (i.k : Int), x.tk, 0⟩ else if (decide (1 ≤ i.op) && decide (i.op ≤ 17)) = true then noneA 9 else visA i x := by
 unfold reqA; rw [if_neg (by omega), if_neg h2, ha]
theorem ak_put {W : World} {g : Nat} {T : TypeId} {z0 z1 z2 z3 z4 z5 : Value} (h : Lies W g T #[z0, z1, z2, z3, z4, z5]) (y : Ak) :
  Lies ((((((W.setCell ⟨g, 0, none⟩ (.int .i64 y.kd)).setCell ⟨g, 1, none⟩ (.int .i64 y.rg)).setCell ⟨g, 2, none⟩ (.int .i64 y.md)).setCell ⟨g, 3, none⟩ (.int .i64 y.rd)).setCell ⟨g, 4, none⟩ (.int .u64 (y.tk : Int))).setCell ⟨g, 5, none⟩ (.int .u64 (y.vl : Int))) g T (akC y) :=
 (((((h.put 0 _).put 1 _).put 2 _).put 3 _).put 4 _).put 5 _
theorem ak_below {W : World} {B g : Nat} {a : World} (h : Below B a W) (hg : B ≤ g) (y : Ak) :
  Below B a ((((((W.setCell ⟨g, 0, none⟩ (.int .i64 y.kd)).setCell ⟨g, 1, none⟩ (.int .i64 y.rg)).setCell ⟨g, 2, none⟩ (.int .i64 y.md)).setCell ⟨g, 3, none⟩ (.int .i64 y.rd)).setCell ⟨g, 4, none⟩ (.int .u64 (y.tk : Int))).setCell ⟨g, 5, none⟩ (.int .u64 (y.vl : Int))) :=
 (((((h.setCell (p := ⟨g, 0, none⟩) hg _).setCell (p := ⟨g, 1, none⟩) hg _).setCell (p := ⟨g, 2, none⟩) hg _).setCell (p := ⟨g, 3, none⟩) hg _).setCell (p := ⟨g, 4, none⟩) hg _).setCell (p := ⟨g, 5, none⟩) hg _
set_option maxHeartbeats 8000000 in
set_option maxRecDepth 100000 in
theorem request16 (l : List In) (A : Option Addr) (c : Nat) (x : Th) (v : Value) (w : World) (h : InsAt w A c l) (hcd : codeB l = true) (hx : 0 ≤ x.at_ ∧ x.at_ ≤ (l.length : Int)) (h18 : x.st = 0 → x.ph = 1 → (atT l x).op = 18) :
  Calls Tryz.prog 113 #[.slice A l.length c, .agg (thC x v)] w fun e w' => e = .returned (.agg (akC (reqA l x))) ∧ Below w.heap.size w w' := by
 obtain ⟨hc1, hc2⟩ := seq_form h
 obtain ⟨hlen, hall⟩ := codeB_parts hcd
 have hb0 : Below w.heap.size w (w.alloc (.cells (thC x v) 73)) := (Below.refl _ _).alloc (Nat.le_refl _) _
 have l0 := Lies.made w 73 (thC x v)
 have HH := Lib.hid h
 have HBO := Lib.hid (fun o => hb0.alloc (by simp) o)
 have HLO := Lib.hid (fun o => l0.alloc o)
 have HALL := Lib.hid hall
 have H18 := Lib.hid h18
 clear h hb0 l0 hcd hall h18
 by_cases hst : x.st = 0
 case neg =>
  have e0 : (x.st != 0) = true := by rw [bne_iff_ne]; exact hst
  have HE := Lib.hid (reqA_st (l := l) hst)
  clear hst
  go_enter Tryz.func113, Tryz.ntmps113
  go_wp2
  exact bodyPost_ret (by simp [results, Tryz.results113, go_sem]; rfl) rfl ⟨by rw [HE.out]; rfl, HBO.out _⟩
 have e0 : (x.st != 0) = false := by rw [bne_eq_false_iff_eq]; exact hst
 by_cases hat : x.at_ = (l.length : Int)
 ·have e1 : (x.at_ == (l.length : Int)) = true := by rw [beq_iff_eq]; exact hat
  have HE := Lib.hid (reqA_end (l := l) hst hat)
  clear hst hat
  go_enter Tryz.func113, Tryz.ntmps113
  go_wp2
  exact bodyPost_ret (by simp [results, Tryz.results113, go_sem]; rfl) rfl ⟨by rw [HE.out]; rfl, HBO.out _⟩
 have e1 : (x.at_ == (l.length : Int)) = false := by rw [beq_eq_false_iff_ne]; exact hat
 obtain ⟨an, han⟩ : ∃ n : Nat, x.at_ = n := ⟨x.at_.toNat, by omega⟩
 obtain ⟨i, hi⟩ : ∃ i, l[an]? = some i := ⟨_, List.getElem?_eq_getElem (by omega)⟩
 have hgt := atT_get han hi
 have HM := Lib.hid (List.mem_of_getElem? hi)
 obtain ⟨b, off, rfl, hbl, hg⟩ := InsAt.at_ HH.out hi
 have HG := Lib.hid (fun (q : World) (hq : Below w.heap.size w q) (j : Nat) (u : Value) (hj : j < 6) (hu : (inF i)[j]? = some u) => cell_later (hg j u hj hu) hq)
 have hal : (an : Int) < (l.length : Int) := by omega
 have HE := Lib.hid (reqA_in hst hat hgt)
 have H18B : Hid (x.ph = 1 → i.op = 18) := fun e => by rw [← hgt]; exact H18.out hst e
 clear H18
 have HR := Lib.hid (HALL.out i HM.out).1
 clear hgt hst hat hi hg HALL
 obtain ⟨xa, xp, xr, xs, xt, xg, xn⟩ := x
 have han : xa = an := han
 subst han
 obtain ⟨iop, ia, ib, ic, id, ik⟩ := i
 have HB := Lib.hid (HBO.out (.cells #[.int .i64 0, .int .i64 0, .int .i64 0, .int .i64 0, .int .u64 0, .int .u64 0] 63))
 have HB3 := Lib.hid (fun o => (HBO.out o).alloc (o := .cells (inC ⟨iop, ia, ib, ic, id, ik⟩) 122) (by simp; omega))
 have l3 := (HLO.out (.cells #[.int .i64 0, .int .i64 0, .int .i64 0, .int .i64 0, .int .u64 0, .int .u64 0] 63)).alloc (.cells (inC ⟨iop, ia, ib, ic, id, ik⟩) 122)
 have HL3 := Lib.hid l3
 clear l3 HLO HBO
 have g0 := HG.out _ (HB).out 0 _ (by decide) rfl
 have g1 := HG.out _ (HB).out 1 _ (by decide) rfl
 have g2 := HG.out _ (HB).out 2 _ (by decide) rfl
 have g3 := HG.out _ (HB).out 3 _ (by decide) rfl
 have g4 := HG.out _ (HB).out 4 _ (by decide) rfl
 have g5 := HG.out _ (HB).out 5 _ (by decide) rfl
 rw [Nat.add_zero] at g0
 by_cases hp1 : xp = 1
 ·have e2 : (xp == 1) = true := by rw [beq_iff_eq]; exact hp1
  have hreg := vis_reg HR.out (.inl (H18B.out hp1))
  have hreg : 0 ≤ ia ∧ ia ≤ 7 := hreg
  obtain ⟨ian, hian⟩ : ∃ n : Nat, ia = n := ⟨ia.toNat, by omega⟩
  have ha8 : ian < 8 := by omega
  have HE2 := Lib.hid (HE.out.trans (if_pos hp1))
  subst hian
  have ra := (HL3.out.cell (5 + ian)).trans (thC_reg _ v ha8)
  have HRA := Lib.hid ra
  clear hreg hp1 HE H18B HR ra
  go_enter Tryz.func113, Tryz.ntmps113
  go_upto_region 7 with (fail)
  have ra := HRA.out
  clear g0 g1 g2 g3 g4 g5
  go_region
  go_wp2
  exact bodyPost_ret (by simp [results, Tryz.results113, go_sem]; rfl) rfl ⟨by rw [HE2.out]; rfl, (HB3.out _).drew⟩
 have e2 : (xp == 1) = false := by rw [beq_eq_false_iff_ne]; exact hp1
 have HE2 := Lib.hid (HE.out.trans (if_neg hp1))
 clear HE hp1 H18B
 by_cases hp2 : xp = 2
 ·have e3 : (xp == 2) = true := by rw [beq_iff_eq]; exact hp2
  have HE3 := Lib.hid (HE2.out.trans (if_pos hp2))
  clear hp2 HE2
  go_enter Tryz.func113, Tryz.ntmps113
  go_wp2
  exact bodyPost_ret (by simp [results, Tryz.results113, go_sem]; rfl) rfl ⟨by rw [HE3.out]; rfl, HB3.out _⟩
 have e3 : (xp == 2) = false := by rw [beq_eq_false_iff_ne]; exact hp2
 have HE3 := Lib.hid (HE2.out.trans (if_neg hp2))
 have HPL := Lib.hid (fun w => plain_any iop w)
 have HVS := Lib.hid (fun q => visible16 ⟨iop, ia, ib, ic, id, ik⟩ ⟨an, xp, xr, xs, xt, xg, xn⟩ v q HR.out)
 clear HE2 hp2
 obtain ⟨pb, hpb⟩ : ∃ b, (decide (1 ≤ iop) && decide (iop ≤ 17)) = b := ⟨_, rfl⟩
 rw [hpb] at HPL
 have HE4 := HE3.out
 rw [show (decide (1 ≤ (In.mk iop ia ib ic id ik).op) && decide ((In.mk iop ia ib ic id ik).op ≤ 17)) = pb from hpb] at HE4
 cases pb with
 | true =>
  have HE5 := Lib.hid (HE4.trans (if_pos rfl))
  clear HE3 HE4 hpb
  go_enter Tryz.func113, Tryz.ntmps113
  go_wp2_with fail
  refine (HPL.out _).mono ?_
  rintro e w3 ⟨rfl, rfl⟩
  go_wp2
  exact bodyPost_ret (by simp [results, Tryz.results113, go_sem]; rfl) rfl ⟨by rw [HE5.out]; rfl, HB3.out _⟩
 | false =>
  have HE5 := Lib.hid (HE4.trans (if_neg (by decide)))
  clear HE3 HE4 hpb
  go_enter Tryz.func113, Tryz.ntmps113
  go_wp2_with fail
  refine (HPL.out _).mono ?_
  rintro e w3 ⟨rfl, rfl⟩
  go_wp2_with fail
  have hb6 := HB3.out (.cells #[.int .i64 0, .int .i64 0, .int .i64 0, .int .i64 0, .int .u64 0, .int .u64 0] 63)
  have l6 := (Lies.made (w.alloc (.cells (thC ⟨an, xp, xr, xs, xt, xg, xn⟩ v) 73)) 63 #[.int .i64 0, .int .i64 0, .int .i64 0, .int .i64 0, .int .u64 0, .int .u64 0]).alloc (.cells (inC ⟨iop, ia, ib, ic, id, ik⟩) 122)
  rw [show (w.alloc (.cells (thC ⟨an, xp, xr, xs, xt, xg, xn⟩ v) 73)).heap.size = w.heap.size + 1 by simp] at l6
  refine (HVS.out _).mono ?_
  rintro e w5 ⟨rfl, hbm⟩
  have hb7 := hb6.trans (hbm.mono (by simp; omega))
  have l7 := l6.below hbm l6.lt
  have HB7 := Lib.hid hb7
  have HL7 := Lib.hid l7
  have HF7 := Lib.hid l7.free
  clear hb6 l6 hbm hb7 l7 HB3 HL3 HVS HPL HB HG
  generalize visA ⟨iop, ia, ib, ic, id, ik⟩ ⟨an, xp, xr, xs, xt, xg, xn⟩ = y at *
  obtain ⟨y0, y1, y2, y3, y4, y5⟩ := y
  have r0 := HL7.out.cell 0
  have r1 := HL7.out.cell 1
  have r2 := HL7.out.cell 2
  have r3 := HL7.out.cell 3
  have r4 := HL7.out.cell 4
  have r5 := HL7.out.cell 5
  simp at r0 r1 r2 r3 r4 r5
  have f0 := HF7.out 0
  have f1 := HF7.out 1
  have f2 := HF7.out 2
  have f3 := HF7.out 3
  have f4 := HF7.out 4
  have f5 := HF7.out 5
  have rl := HL7.out.lt
  clear g0 g1 g2 g3 g4 g5
  have hz := ak_put HL7.out ⟨y0, y1, y2, y3, y4, y5⟩
  have hbz := ak_below HB7.out (show w.heap.size ≤ w.heap.size + 1 by omega) ⟨y0, y1, y2, y3, y4, y5⟩
  go_wp2
  generalize ((((((w5.setCell ⟨w.heap.size + 1, 0, none⟩ (.int .i64 y0)).setCell ⟨w.heap.size + 1, 1, none⟩ (.int .i64 y1)).setCell ⟨w.heap.size + 1, 2, none⟩ (.int .i64 y2)).setCell ⟨w.heap.size + 1, 3, none⟩ (.int .i64 y3)).setCell ⟨w.heap.size + 1, 4, none⟩ (.int .u64 (y4 : Int))).setCell ⟨w.heap.size + 1, 5, none⟩ (.int .u64 (y5 : Int))) = w9 at *
  have z0 := hz.cell 0
  have z1 := hz.cell 1
  have z2 := hz.cell 2
  have z3 := hz.cell 3
  have z4 := hz.cell 4
  have z5 := hz.cell 5
  have zl := hz.lt
  simp at z0 z1 z2 z3 z4 z5
  exact bodyPost_ret (by simp [results, Tryz.results113, go_sem, z0, z1, z2, z3, z4, z5]; rfl) rfl ⟨by rw [HE5.out], hbz⟩
theorem Tryz.info64 : (Tryz.prog.info? 37).map (fun i => (i.zero, i.size, i.bytes)) = some (some (.int .u64 0), 1, 8) := by kernel_rfl
theorem cells64_one (l : List Nat) : ∀ u ∈ cells64 l, u.oneCell' = true := fun u hu => by
 unfold cells64 at hu
 obtain ⟨x, _, rfl⟩ := List.mem_map.1 hu
 rfl
set_option maxHeartbeats 2000000 in
set_option maxRecDepth 100000 in
theorem clone16 (l : List Nat) (A : Option Addr) (c : Nat) (w : World) (h : SeqS w 1 (.slice A l.length c) l.length (cells64 l)) (hl : l.length ≤ 1000000) :
  Calls Tryz.prog 55 #[.slice A l.length c] w fun e w' => ∃ v, e = .returned v ∧ w'.ownsRow w.heap.size 37 1 v l.length (cells64 l) ∧ Below w.heap.size w w' := by
 have hf := h
 obtain ⟨h1, A', c', e1, hlc, hcm, h0, hcell⟩ := hf
 simp only [Value.slice.injEq, true_and] at e1
 obtain ⟨rfl, rfl⟩ := e1
 have HLEN := Lib.hid hl
 have hlen2 : (cells64 l).length = l.length := by simp [cells64]
 cases A with
 | none =>
  have hn := h0 rfl
  have hl0 : l = [] := by
   cases l with
   | nil => rfl
   | cons a t => simp only [List.length_cons] at hlc; omega
  subst hl0
  have HEQ : ∀ q : World, (binOp .eql 66 (.slice none ([] : List Nat).length c) (.slice none 0 0)).run Tryz.prog q = .ok (.bool true) q := fun q => Lib.run_eql_slice_nil q _ _ none _ _ _ _ Tryz.underlying66
  simp only [List.length_nil] at HEQ
  clear h0 hn hcell h1 h
  go_enter Tryz.func55, Tryz.ntmps55
  go_wp2
  go_ret
  exact ⟨_, rfl, World.ownsRow_nil _ _ _ _, Below.refl _ _⟩
 | some p =>
  obtain ⟨b, o, f⟩ := p
  have HSQ := Lib.hid (SeqS.later h ((Below.refl w.heap.size w).alloc (Nat.le_refl _) (.cells #[] 37)))
  have HE := Lib.hid (owned_empty (w := w) (B := w.heap.size) 37 1 (Nat.le_refl _))
  have HBA := Lib.hid ((Below.refl w.heap.size w).alloc (Nat.le_refl _) (.cells #[] 37))
  have HEQ : ∀ q : World, (binOp .eql 66 (.slice (some ⟨b, o, f⟩) l.length c) (.slice none 0 0)).run Tryz.prog q = .ok (.bool false) q := fun q => Lib.run_eql_slice_nil q _ _ (some ⟨b, o, f⟩) _ _ _ _ Tryz.underlying66
  clear h0 hcell h1 h hlen2 hl
  go_enter Tryz.func55, Tryz.ntmps55
  go_wp2_with (at_builtin; refine append_argS (w.alloc (.cells #[] 37)) 1 rfl (.tmp 5) (.tmp 6) 66 rfl w.heap.size 37 (.int .u64 0) 8 Tryz.underlying66 Tryz.info64 rfl (by decide) _ 0 [] rfl HE.out (some ⟨b, o, f⟩) l.length c rfl (cells64 l) HSQ.out (cells64_one _) (by have := HLEN.out; unfold maxLen; omega) (by have := HLEN.out; omega) (by simp) ?_)
  intro v' w3 ho3 hb3 hg3
  have HO := Lib.hid ho3
  have HB := Lib.hid (HBA.out.trans hb3)
  clear ho3 hb3 hg3 HSQ HE HBA
  go_wp2
  go_ret
  exact ⟨v', rfl, HO.out, HB.out⟩
abbrev thZ : Array Value := #[.int .i64 0, .int .i64 0, .int .i64 0, .int .i64 0, .int .u64 0, .int .u64 0, .int .u64 0, .int .u64 0, .int .u64 0, .int .u64 0, .int .u64 0, .int .u64 0, .int .u64 0, .slice none 0 0]
theorem kept_rowT {w : World} {g : Nat} (cs : Array Value) : Kept (oneRow g) w (w.setRow g cs) :=
 ⟨rfl, rfl, rfl, by unfold World.setRow; simp, fun k _ hk => setRow_other w g k cs (fun e => hk e)⟩
theorem infoTh : (Tryz.prog.info? 73).map (·.size) = some 14 := by kernel_rfl
theorem thC_one (x : Th) {v : Value} (hv : v.oneCell' = true) : (thC x v).all (·.oneCell') = true := by
 simp [thC, hv]
 exact ⟨rfl, rfl, rfl, rfl, rfl, rfl, rfl, rfl, rfl, rfl, rfl, rfl, rfl⟩
def twoRows (a b : Nat) : Nat → Prop := fun k => k = a ∨ k = b
def rgV (vs : List (Option Value)) (F : Nat → World → Prop) (j : Nat) (u : Value) (q : World) : Prop := match vs.getD j none with | some v => u = v | none => F j q
theorem rgV_mono {vs : List (Option Value)} {F : Nat → World → Prop} {j : Nat} {u : Value} {q q' : World} (hF : F j q → F j q') (h : rgV vs F j u q) : rgV vs F j u q' := by
 unfold rgV at h ⊢
 cases hv : vs.getD j none with
 | some v => rw [hv] at h; exact h
 | none => rw [hv] at h; exact hF h
def twF (i4 i5 i7 i8 b4 b5 : Nat) (T U : TypeId) (c4 c5 z4 z5 : Array Value) (j : Nat) (q : World) : Prop :=
 if j = i4 then Lies q b4 T c4 else if j = i5 then Lies q b5 U c5 else if j = i7 then Lies q b4 T z4 else if j = i8 then Lies q b5 U z5 else True
theorem twF_kept {i4 i5 i7 i8 b4 b5 : Nat} {T U : TypeId} {c4 c5 z4 z5 : Array Value} {j : Nat} {q q' : World} {S : Nat → Prop} (h4 : ¬ S b4) (h5 : ¬ S b5) (k : Kept S q q') (h : twF i4 i5 i7 i8 b4 b5 T U c4 c5 z4 z5 j q) : twF i4 i5 i7 i8 b4 b5 T U c4 c5 z4 z5 j q' := by
 unfold twF at h ⊢
 split
 ·rename_i e; rw [if_pos e] at h; exact h.kept k h4
 rename_i e1; rw [if_neg e1] at h
 split
 ·rename_i e; rw [if_pos e] at h; exact h.kept k h5
 rename_i e2; rw [if_neg e2] at h
 split
 ·rename_i e; rw [if_pos e] at h; exact h.kept k h4
 rename_i e3; rw [if_neg e3] at h
 split
 ·rename_i e; rw [if_pos e] at h; exact h.kept k h5
 trivial
theorem twF_kept4 {i4 i5 i7 i8 b4 b5 : Nat} {T U : TypeId} {c4 c5 z4 z5 : Array Value} {j : Nat} {q q' : World} {S : Nat → Prop} (hj : (j != i4 && j != i7) = true) (h5 : ¬ S b5) (k : Kept S q q') (h : twF i4 i5 i7 i8 b4 b5 T U c4 c5 z4 z5 j q) : twF i4 i5 i7 i8 b4 b5 T U c4 c5 z4 z5 j q' := by
 rw [Bool.and_eq_true, bne_iff_ne, bne_iff_ne] at hj
 unfold twF at h ⊢
 rw [if_neg hj.1] at h ⊢
 split
 ·rename_i e; rw [if_pos e] at h; exact h.kept k h5
 rename_i e2; rw [if_neg e2, if_neg hj.2] at h
 rw [if_neg hj.2]
 split
 ·rename_i e; rw [if_pos e] at h; exact h.kept k h5
 trivial
theorem twF_kept5 {i4 i5 i7 i8 b4 b5 : Nat} {T U : TypeId} {c4 c5 z4 z5 : Array Value} {j : Nat} {q q' : World} {S : Nat → Prop} (hj : (j != i5 && j != i8) = true) (h4 : ¬ S b4) (k : Kept S q q') (h : twF i4 i5 i7 i8 b4 b5 T U c4 c5 z4 z5 j q) : twF i4 i5 i7 i8 b4 b5 T U c4 c5 z4 z5 j q' := by
 rw [Bool.and_eq_true, bne_iff_ne, bne_iff_ne] at hj
 unfold twF at h ⊢
 split
 ·rename_i e; rw [if_pos e] at h; exact h.kept k h4
 rename_i e1; rw [if_neg e1, if_neg hj.1] at h
 rw [if_neg hj.1]
 split
 ·rename_i e; rw [if_pos e] at h; exact h.kept k h4
 rename_i e2; rw [if_neg e2, if_neg hj.2] at h
 rw [if_neg hj.2]
 trivial
theorem kept_rowS {w : World} {g : Nat} {S : Nat → Prop} (cs : Array Value) (h : S g) : Kept S w (w.setRow g cs) :=
 ⟨rfl, rfl, rfl, by unfold World.setRow; simp, fun k _ hk => setRow_other w g k cs (fun e => hk (e ▸ h))⟩
theorem lies_row {w : World} {g : Nat} {t : TypeId} {old : Array Value} (h : Lies w g t old) (cs : Array Value) : Lies (w.setRow g cs) g t cs := setRow_heap w g old cs t (0, 0) h
def nxT (l : List In) (x : Th) : Th := if x.st = 0 ∧ x.ph = 0 then goT l 256 x else x
theorem nxT_run {l : List In} {x : Th} (h1 : x.st = 0) (h2 : x.ph = 0) : nxT l x = goT l 256 x := by unfold nxT; rw [if_pos ⟨h1, h2⟩]
theorem nxT_not {l : List In} {x : Th} (h : ¬ (x.st = 0 ∧ x.ph = 0)) : nxT l x = x := by unfold nxT; rw [if_neg h]
theorem hdB_parts {l : List In} {x : Th} {op : Int} (h : hdB l x op = true) : x.st = 0 ∧ x.at_ < (l.length : Int) ∧ (atT l x).op = op ∧ (atT l x).c = x.rg ∧ x.tk < 4611686018427387904 := by
 unfold hdB at h
 simp only [Bool.and_eq_true, beq_iff_eq, decide_eq_true_eq] at h
 exact ⟨h.1, h.2.1, h.2.2.1, h.2.2.2.1, h.2.2.2.2⟩
theorem thB_parts {l : List In} {x : Th} (h : thB l x = true) : codeB l = true ∧ (0 ≤ x.at_ ∧ x.at_ ≤ (l.length : Int) ∧ 0 ≤ x.st ∧ x.st ≤ 2) ∧ phB l x = true := by
 unfold thB inTh at h
 simp only [Bool.and_eq_true, decide_eq_true_eq] at h
 exact ⟨h.1, h.2.1, h.2.2⟩
theorem thB_inv {l : List In} {x : Th} (h : thB l x = true) (hx : thOk x) : InvT l x := ⟨(thB_parts h).2.1.1, (thB_parts h).2.1.2.1, hx.2.2.2.2.2.1⟩
theorem phB_1 {l : List In} {x : Th} (h : phB l x = true) (h1 : x.ph = 1) : hdB l x 18 = true := by
 unfold phB at h; rw [if_neg (by omega), if_pos h1] at h; exact h
theorem nxT_facts {l : List In} {x : Th} (h : thB l x = true) (hx : thOk x) (hok : ∀ i ∈ l, inOk i) : InvT l (nxT l x) ∧ ((nxT l x).st = 0 → (nxT l x).ph = 1 → (atT l (nxT l x)).op = 18) ∧ (nxT l x).sn = x.sn := by
 obtain ⟨hc, hin, hp⟩ := thB_parts h
 by_cases hh : x.st = 0 ∧ x.ph = 0
 ·rw [nxT_run hh.1 hh.2]
  obtain ⟨q1, q2, q3, q4, q5⟩ := goT_rest l 256 x
  refine ⟨goT_inv hc hok 256 x (thB_inv h hx), fun _ e => ?_, q5⟩
  rw [q1] at e; omega
 ·rw [nxT_not hh]
  exact ⟨thB_inv h hx, fun _ e => (hdB_parts (phB_1 hp e)).2.2.1, rfl⟩
abbrev akZ : Array Value := #[.int .i64 0, .int .i64 0, .int .i64 0, .int .i64 0, .int .u64 0, .int .u64 0]
theorem infoAk : (Tryz.prog.info? 63).map (·.size) = some 6 := by kernel_rfl
theorem owns_slice {w : World} {B : Nat} {e : TypeId} {sz n : Nat} {v : Value} {xs : List Value} (h : w.ownsRow B e sz v n xs) : ∃ A c, v = .slice A n c := by
 rcases owns_row h with ⟨rfl, rfl, _⟩ | ⟨r, cap, cur, rfl, _⟩
 ·exact ⟨none, 0, rfl⟩
 ·exact ⟨_, _, rfl⟩
theorem akC_one (a : Ak) : (akC a).all (·.oneCell') = true := by
 simp [akC]
 exact ⟨rfl, rfl, rfl, rfl, rfl, rfl⟩
set_option maxHeartbeats 8000000 in
set_option maxRecDepth 100000 in
theorem next16 (l : List In) (A : Option Addr) (c : Nat) (x : Th) (S : Option Addr) (cs : Nat) (w : World) (h : InsAt w A c l) (hok : ∀ i ∈ l, inOk i) (hx : thOk x) (hs : SeqS w 1 (.slice S x.sn.length cs) x.sn.length (cells64 x.sn)) (hl : x.sn.length ≤ 1000000) (hr : thB l x = true) :
  Calls Tryz.prog 76 #[.slice A l.length c, .agg (thC x (.slice S x.sn.length cs))] w fun e w' => ∃ A' c', e = .returned (.tuple #[.agg (thC (nxT l x) (.slice A' x.sn.length c')), .agg (akC (reqA l (nxT l x))), .int .i64 0]) ∧ w'.ownsRow w.heap.size 37 1 (.slice A' x.sn.length c') x.sn.length (cells64 x.sn) ∧ Below w.heap.size w w' := by
 obtain ⟨hc1, hc2⟩ := seq_form h
 have hb3 : Below w.heap.size w (((w.alloc (.cells (thC x (.slice S x.sn.length cs)) 73)).alloc (.cells thZ 73)).alloc (.cells akZ 63)) := (((Below.refl _ _).alloc (Nat.le_refl _) _).alloc (by simp) _).alloc (by simp; omega) _
 have l1 := ((Lies.made w 73 (thC x (.slice S x.sn.length cs))).alloc (.cells thZ 73)).alloc (.cells akZ 63)
 have l2 := (Lies.made (w.alloc (.cells (thC x (.slice S x.sn.length cs)) 73)) 73 thZ).alloc (.cells akZ 63)
 have l3 := Lies.made ((w.alloc (.cells (thC x (.slice S x.sn.length cs)) 73)).alloc (.cells thZ 73)) 63 akZ
 rw [show (w.alloc (.cells (thC x (.slice S x.sn.length cs)) 73)).heap.size = w.heap.size + 1 by simp] at l2
 rw [show ((w.alloc (.cells (thC x (.slice S x.sn.length cs)) 73)).alloc (.cells thZ 73)).heap.size = w.heap.size + 1 + 1 by simp] at l3
 have HB := Lib.hid hb3
 have HG := Lib.hid l1
 have H4 := Lib.hid l2
 have H5 := Lib.hid l3
 obtain ⟨hc, hin, hp⟩ := thB_parts hr
 obtain ⟨hinv, h18, hsn⟩ := nxT_facts hr hx hok
 have HH := Lib.hid (fun (q : World) (hq : Below w.heap.size w q) => h.later hq)
 have HSQ := Lib.hid (fun (q : World) (hq : Below w.heap.size w q) => hs.later hq)
 have HRT := Lib.hid (fun q hq => thRight l A c x (.slice S x.sn.length cs) q hq)
 rw [hr] at HRT
 have HCL := Lib.hid (fun q hq => clone16 x.sn S cs q hq hl)
 have HIV := Lib.hid hinv
 have H18 := Lib.hid h18
 have HX := Lib.hid (thB_inv hr hx)
 have HC := Lib.hid hc
 have HRQ := Lib.hid (fun v q hq => request16 l A c (nxT l x) v q hq hc ⟨hinv.1, hinv.2.1⟩ h18)
 have HOK := Lib.hid hok
 have HADV := Lib.hid (fun v q hb hl => advance16 l A c x v w.heap.size w q h hok hc hb (Nat.le_refl _) hl (thB_inv hr hx))
 have HLN := Lib.hid hl
 clear hb3 l1 l2 l3 hc hin hp hinv h18 hsn h hs hr hx hok hl
 go_enter Tryz.func76, Tryz.ntmps76
 go_upto_region 1 with (fail)
 generalize (((w.alloc (.cells (thC x (.slice S x.sn.length cs)) 73)).alloc (.cells thZ 73)).alloc (.cells akZ 63)) = w1 at *
 have c0 := (HG.out.cell 0).trans (show _ = some (Value.int .i64 x.at_) from rfl)
 have c1 := (HG.out.cell 1).trans (show _ = some (Value.int .i64 x.ph) from rfl)
 have c2 := (HG.out.cell 2).trans (show _ = some (Value.int .i64 x.rg) from rfl)
 have c3 := (HG.out.cell 3).trans (show _ = some (Value.int .i64 x.st) from rfl)
 have c4 := (HG.out.cell 4).trans (show _ = some (Value.int .u64 (x.tk : Int)) from rfl)
 have c5 := (HG.out.cell 5).trans (show _ = some (Value.int .u64 (x.r 0 : Int)) from rfl)
 have c6 := (HG.out.cell 6).trans (show _ = some (Value.int .u64 (x.r 1 : Int)) from rfl)
 have c7 := (HG.out.cell 7).trans (show _ = some (Value.int .u64 (x.r 2 : Int)) from rfl)
 have c8 := (HG.out.cell 8).trans (show _ = some (Value.int .u64 (x.r 3 : Int)) from rfl)
 have c9 := (HG.out.cell 9).trans (show _ = some (Value.int .u64 (x.r 4 : Int)) from rfl)
 have c10 := (HG.out.cell 10).trans (show _ = some (Value.int .u64 (x.r 5 : Int)) from rfl)
 have c11 := (HG.out.cell 11).trans (show _ = some (Value.int .u64 (x.r 6 : Int)) from rfl)
 have c12 := (HG.out.cell 12).trans (show _ = some (Value.int .u64 (x.r 7 : Int)) from rfl)
 have c13 := (HG.out.cell 13).trans (show _ = some ((.slice S x.sn.length cs)) from rfl)
 have cl := HG.out.lt
 go_wp2_with fail
 refine (HRT.out _ (HH.out _ HB.out)).mono ?_
 rintro e w2 ⟨rfl, hbm⟩
 replace HG := Lib.hid (HG.out.below hbm HG.out.lt)
 replace H4 := Lib.hid (H4.out.below hbm H4.out.lt)
 replace H5 := Lib.hid (H5.out.below hbm H5.out.lt)
 replace HB := Lib.hid (HB.out.trans (hbm.mono HB.out.size))
 clear c0 c1 c2 c3 c4 c5 c6 c7 c8 c9 c10 c11 c12 c13 cl
 clear hbm HRT
 have c13 := (HG.out.cell 13).trans (show _ = some (.slice S x.sn.length cs) from rfl)
 have cl := HG.out.lt
 go_wp2_with fail
 refine (HCL.out _ (HSQ.out _ HB.out)).mono ?_
 rintro e w3 ⟨v, rfl, ho, hbm⟩
 obtain ⟨A', c', rfl⟩ := owns_slice ho
 have hBw := HB.out.size
 have HO := Lib.hid (owns_mono ho hBw)
 replace HG := Lib.hid (HG.out.below hbm HG.out.lt)
 replace H4 := Lib.hid (H4.out.below hbm H4.out.lt)
 replace H5 := Lib.hid (H5.out.below hbm H5.out.lt)
 replace HB := Lib.hid (HB.out.trans (hbm.mono HB.out.size))
 clear hbm ho c13 cl hBw HCL HSQ
 have c13 := (HG.out.cell 13).trans (show _ = some (.slice S x.sn.length cs) from rfl)
 have cl := HG.out.lt
 have cf := HG.out.free 13
 go_upto_region 4 with (fail)
 replace H4 := Lib.hid (H4.out.far (p := ⟨w.heap.size, 13, none⟩) (show w.heap.size + 1 ≠ w.heap.size by omega) (.slice A' x.sn.length c'))
 replace H5 := Lib.hid (H5.out.far (p := ⟨w.heap.size, 13, none⟩) (show w.heap.size + 1 + 1 ≠ w.heap.size by omega) (.slice A' x.sn.length c'))
 replace HO := Lib.hid (owns_put HO.out HG.out (by decide) 13 (.slice A' x.sn.length c'))
 replace HB := Lib.hid (HB.out.setCell (p := ⟨w.heap.size, 13, none⟩) (Nat.le_refl _) (.slice A' x.sn.length c'))
 have HG3 := Lib.hid (show Lies (w3.setCell ⟨w.heap.size, 13, none⟩ (.slice A' x.sn.length c')) w.heap.size 73 (thC x (.slice A' x.sn.length c')) from HG.out.put 13 (.slice A' x.sn.length c'))
 clear HG c13 cl cf
 generalize w3.setCell ⟨w.heap.size, 13, none⟩ (.slice A' x.sn.length c') = w4 at *
 have c1 := (HG3.out.cell 1).trans (show _ = some (.int .i64 x.ph) from rfl)
 have c3 := (HG3.out.cell 3).trans (show _ = some (.int .i64 x.st) from rfl)
 have cl := HG3.out.lt
 by_cases hst : x.st = 0
 ·have e1 : (x.st == 0) = true := by rw [beq_iff_eq]; exact hst
  by_cases hph : x.ph = 0
  ·have e2 : (x.ph == 0) = true := by rw [beq_iff_eq]; exact hph
   have HY := Lib.hid (nxT_run (l := l) hst hph)
   clear hst hph
   go_wp2_with fail
   refine (HADV.out _ _ HB.out HG3.out).mono ?_
   rintro e w5 ⟨rfl, hl5, hk5⟩
   rw [← HY.out] at hl5
   replace H4 := Lib.hid (H4.out.kept hk5 (fun (e : w.heap.size + 1 = w.heap.size) => by omega))
   replace H5 := Lib.hid (H5.out.kept hk5 (fun (e : w.heap.size + 1 + 1 = w.heap.size) => by omega))
   replace HO := Lib.hid (owns_kept HO.out hk5 (fun r cur hr hl (e : r = w.heap.size) => by subst e; exact absurd (hl.same HG3.out).1 (by decide)))
   replace HB := Lib.hid (HB.out.trans (hk5.below HB.out.size (fun k hk (e : k = w.heap.size) => by omega)))
   clear HG3 c1 c3 cl hk5 HADV
   have HG3 := Lib.hid hl5
   clear hl5 HY HX
   generalize hyy : nxT l x = y at *
   have HYE := Lib.hid hyy
   clear hyy
   go_wp2_with fail
   try clear c1 c3 cl
   generalize hw9 : w5 = w9 at *
   clear hw9
   have HSN := Lib.hid (fun (q : World) (hq : Kept (twoRows (w.heap.size + 1) (w.heap.size + 1 + 1)) w9 q) => HG3.out.kept hq (fun (e : w.heap.size = _ ∨ w.heap.size = _) => by omega))
   have HBL := Lib.hid (fun (q : World) (hq : Kept (twoRows (w.heap.size + 1) (w.heap.size + 1 + 1)) w9 q) => HB.out.trans (hq.below HB.out.size (fun k hk (e : k = _ ∨ k = _) => by omega)))
   refine wp_region_rely (fun q => Kept (twoRows (w.heap.size + 1) (w.heap.size + 1 + 1)) w9 q) (rgV [some (.agg (thC y (.slice A' x.sn.length c'))), some (.slice A l.length c), some (.agg (thC y (.slice A' x.sn.length c'))), some (.agg (akC (reqA l y))), none, none, some (.int .i64 0), none, none] (twF 4 5 7 8 (w.heap.size + 1) (w.heap.size + 1 + 1) 73 63 (thC y (.slice A' x.sn.length c')) (akC (reqA l y)) thZ akZ)) [some 27, some 28, some 29, some 30, none, none, some 6] [[], [], [], [1, 2], [0, 7], [3, 8], []] [[], [], [], [1, 2], [0, 1, 2, 7], [0, 1, 2, 3, 7, 8], [0, 1, 2, 3, 7, 8]] [[1, 2, 3, 7, 8], [0, 2, 4, 7, 8], [0, 1, 4, 7, 8], [0, 7, 8], [3, 8], [4], [4, 5]] [0, 1, 2, 3, 4, 5, 6] 9 (by kernel_rfl) (by kernel_rfl) (by kernel_rfl) (by kernel_rfl) ?rS ?rI ?rT ?rE
   case rS => exact Kept.drew _ _
   case rI =>
    intro j h1 h2
    have h1 : j < 9 := h1
    have h2 : 7 ≤ j := h2
    have hj : j = 7 ∨ j = 8 := by omega
    rcases hj with rfl | rfl
    ·exact H4.out.drewN 1
    ·exact H5.out.drewN 1
   case rT =>
    refine RelySteps.cons (RelyStep.mk [] [1, 2, 3, 7, 8] rfl rfl rfl (fun xv wS hS hV bq hb K hK => ?_)) ?_
    ·clear hV
     simp only [putsOf, List.foldl_cons, List.foldl_nil, List.getD_cons_zero, List.getD_cons_succ, List.getD_nil, cond_true, cond_false, Act.put, List.setIfInBounds_toArray, List.set_cons_zero, List.set_cons_succ] at hb
     subst hb
     rw [if_pos (by rfl)]
     (have HZ := Lib.hid (HSN.out _ hS); have HSS := Lib.hid hS; have c0 := (HZ.out.cell 0).trans (show _ = some (Value.int .i64 y.at_) from rfl); have c1 := (HZ.out.cell 1).trans (show _ = some (Value.int .i64 y.ph) from rfl); have c2 := (HZ.out.cell 2).trans (show _ = some (Value.int .i64 y.rg) from rfl); have c3 := (HZ.out.cell 3).trans (show _ = some (Value.int .i64 y.st) from rfl); have c4 := (HZ.out.cell 4).trans (show _ = some (Value.int .u64 (y.tk : Int)) from rfl); have c5 := (HZ.out.cell 5).trans (show _ = some (Value.int .u64 (y.r 0 : Int)) from rfl); have c6 := (HZ.out.cell 6).trans (show _ = some (Value.int .u64 (y.r 1 : Int)) from rfl); have c7 := (HZ.out.cell 7).trans (show _ = some (Value.int .u64 (y.r 2 : Int)) from rfl); have c8 := (HZ.out.cell 8).trans (show _ = some (Value.int .u64 (y.r 3 : Int)) from rfl); have c9 := (HZ.out.cell 9).trans (show _ = some (Value.int .u64 (y.r 4 : Int)) from rfl); have c10 := (HZ.out.cell 10).trans (show _ = some (Value.int .u64 (y.r 5 : Int)) from rfl); have c11 := (HZ.out.cell 11).trans (show _ = some (Value.int .u64 (y.r 6 : Int)) from rfl); have c12 := (HZ.out.cell 12).trans (show _ = some (Value.int .u64 (y.r 7 : Int)) from rfl); have c13 := (HZ.out.cell 13).trans (show _ = some (.slice A' x.sn.length c') from rfl); have cl := HZ.out.lt)
     go_wp2_with fail
     exact hK.out _ _ ⟨_, rfl, hS, rfl, AllP.same _⟩
    refine RelySteps.cons (RelyStep.mk [] [0, 2, 4, 7, 8] rfl rfl rfl (fun xv wS hS hV bq hb K hK => ?_)) ?_
    ·clear hV
     simp only [putsOf, List.foldl_cons, List.foldl_nil, List.getD_cons_zero, List.getD_cons_succ, List.getD_nil, cond_true, cond_false, Act.put, List.setIfInBounds_toArray, List.set_cons_zero, List.set_cons_succ] at hb
     subst hb
     rw [if_pos (by rfl)]
     go_wp2_with fail
     exact hK.out _ _ ⟨_, rfl, hS, rfl, AllP.same _⟩
    refine RelySteps.cons (RelyStep.mk [] [0, 1, 4, 7, 8] rfl rfl rfl (fun xv wS hS hV bq hb K hK => ?_)) ?_
    ·clear hV
     simp only [putsOf, List.foldl_cons, List.foldl_nil, List.getD_cons_zero, List.getD_cons_succ, List.getD_nil, cond_true, cond_false, Act.put, List.setIfInBounds_toArray, List.set_cons_zero, List.set_cons_succ] at hb
     subst hb
     rw [if_pos (by rfl)]
     (have HZ := Lib.hid (HSN.out _ hS); have c0 := (HZ.out.cell 0).trans (show _ = some (Value.int .i64 y.at_) from rfl); have c1 := (HZ.out.cell 1).trans (show _ = some (Value.int .i64 y.ph) from rfl); have c2 := (HZ.out.cell 2).trans (show _ = some (Value.int .i64 y.rg) from rfl); have c3 := (HZ.out.cell 3).trans (show _ = some (Value.int .i64 y.st) from rfl); have c4 := (HZ.out.cell 4).trans (show _ = some (Value.int .u64 (y.tk : Int)) from rfl); have c5 := (HZ.out.cell 5).trans (show _ = some (Value.int .u64 (y.r 0 : Int)) from rfl); have c6 := (HZ.out.cell 6).trans (show _ = some (Value.int .u64 (y.r 1 : Int)) from rfl); have c7 := (HZ.out.cell 7).trans (show _ = some (Value.int .u64 (y.r 2 : Int)) from rfl); have c8 := (HZ.out.cell 8).trans (show _ = some (Value.int .u64 (y.r 3 : Int)) from rfl); have c9 := (HZ.out.cell 9).trans (show _ = some (Value.int .u64 (y.r 4 : Int)) from rfl); have c10 := (HZ.out.cell 10).trans (show _ = some (Value.int .u64 (y.r 5 : Int)) from rfl); have c11 := (HZ.out.cell 11).trans (show _ = some (Value.int .u64 (y.r 6 : Int)) from rfl); have c12 := (HZ.out.cell 12).trans (show _ = some (Value.int .u64 (y.r 7 : Int)) from rfl); have c13 := (HZ.out.cell 13).trans (show _ = some (.slice A' x.sn.length c') from rfl); have cl := HZ.out.lt)
     go_wp2_with fail
     exact hK.out _ _ ⟨_, rfl, hS, rfl, AllP.same _⟩
    refine RelySteps.cons (RelyStep.mk [1, 2] [0, 7, 8] rfl rfl rfl (fun xv wS hS hV bq hb K hK => ?_)) ?_
    ·obtain ⟨h1, h2, _⟩ := hV
     have h1 : xv 1 = _ := h1
     have h2 : xv 2 = _ := h2
     simp only [putsOf, List.foldl_cons, List.foldl_nil, List.getD_cons_zero, List.getD_cons_succ, List.getD_nil, cond_true, cond_false, Act.put, List.setIfInBounds_toArray, List.set_cons_zero, List.set_cons_succ, h1, h2] at hb
     clear h1
     clear h2
     subst hb
     rw [if_pos (by rfl)]
     have HSS := Lib.hid hS
     clear hS
     go_wp2_with fail
     refine (HRQ.out _ _ (HH.out _ (HBL.out _ HSS.out))).mono ?_
     rintro e w' ⟨rfl, hbm⟩
     have hk9 := Kept.of_below hbm
     exact hK.out _ _ ⟨_, rfl, HSS.out.trans (hk9.mono (T := twoRows (w.heap.size + 1) (w.heap.size + 1 + 1)) (fun _ _ e => e.elim)) (fun _ _ e => e), rfl, AllP.of _ (fun j hj u h => rgV_mono (twF_kept (fun e => e) (fun e => e) hk9) h)⟩
    refine RelySteps.cons (RelyStep.mk [0, 7] [3, 8] rfl rfl rfl (fun xv wS hS hV bq hb K hK => ?_)) ?_
    ·obtain ⟨h0, h7, _⟩ := hV
     have h0 : xv 0 = _ := h0
     simp only [putsOf, List.foldl_cons, List.foldl_nil, List.getD_cons_zero, List.getD_cons_succ, List.getD_nil, cond_true, cond_false, Act.put, List.setIfInBounds_toArray, List.set_cons_zero, List.set_cons_succ, h0] at hb
     clear h0
     generalize xv 7 = y7 at *
     subst hb
     rw [if_pos (by rfl)]
     have q7 : Lies wS (w.heap.size + 1) 73 thZ := h7
     have hk9 := kept_rowT (w := wS) (g := w.heap.size + 1) (thC y (.slice A' x.sn.length c'))
     refine wp_store_row _ _ _ rfl (w.heap.size + 1) (thC y (.slice A' x.sn.length c')) rfl rfl 73 thZ q7 infoTh rfl (thC_one y rfl) ?_
     exact hK.out _ _ ⟨undef, rfl, hS.trans (hk9.mono (T := twoRows (w.heap.size + 1) (w.heap.size + 1 + 1)) (fun _ _ e => .inl e)) (fun _ _ e => e), lies_row q7 _, AllP.of _ (fun j hj u h => rgV_mono (twF_kept4 (all_in (fun j => j != 4 && j != 7) rfl hj) (fun (e : w.heap.size + 1 + 1 = w.heap.size + 1) => by omega) hk9) h)⟩
    refine RelySteps.cons (RelyStep.mk [3, 8] [4] rfl rfl rfl (fun xv wS hS hV bq hb K hK => ?_)) ?_
    ·obtain ⟨h3, h8, _⟩ := hV
     have h3 : xv 3 = _ := h3
     simp only [putsOf, List.foldl_cons, List.foldl_nil, List.getD_cons_zero, List.getD_cons_succ, List.getD_nil, cond_true, cond_false, Act.put, List.setIfInBounds_toArray, List.set_cons_zero, List.set_cons_succ, h3] at hb
     clear h3
     generalize xv 8 = y8 at *
     subst hb
     rw [if_pos (by rfl)]
     have q8 : Lies wS (w.heap.size + 1 + 1) 63 akZ := h8
     have hk9 := kept_rowT (w := wS) (g := w.heap.size + 1 + 1) (akC (reqA l y))
     refine wp_store_row _ _ _ rfl (w.heap.size + 1 + 1) (akC (reqA l y)) rfl rfl 63 akZ q8 infoAk rfl (akC_one _) ?_
     exact hK.out _ _ ⟨undef, rfl, hS.trans (hk9.mono (T := twoRows (w.heap.size + 1) (w.heap.size + 1 + 1)) (fun _ _ e => .inr e)) (fun _ _ e => e), lies_row q8 _, AllP.of _ (fun j hj u h => rgV_mono (twF_kept5 (all_in (fun j => j != 5 && j != 8) rfl hj) (fun (e : w.heap.size + 1 = w.heap.size + 1 + 1) => by omega) hk9) h)⟩
    refine RelySteps.cons (RelyStep.mk [] [4, 5] rfl rfl rfl (fun xv wS hS hV bq hb K hK => ?_)) ?_
    ·clear hV
     simp only [putsOf, List.foldl_cons, List.foldl_nil, List.getD_cons_zero, List.getD_cons_succ, List.getD_nil, cond_true, cond_false, Act.put, List.setIfInBounds_toArray, List.set_cons_zero, List.set_cons_succ] at hb
     subst hb
     rw [if_pos (by rfl)]
     go_wp2_with fail
     exact hK.out _ _ ⟨_, rfl, hS, rfl, AllP.same _⟩
    exact RelySteps.nil
   case rE =>
    intro xv wE hS hV
    have h4 := hV 4 (by decide) (by decide)
    have h5 := hV 5 (by decide) (by decide)
    have h6 := hV 6 (by decide) (by decide)
    clear hV
    simp only [putsOf, List.foldl_cons, List.foldl_nil, List.getD_cons_zero, List.getD_cons_succ, List.getD_nil, cond_true, cond_false, Act.put, List.setIfInBounds_toArray, List.set_cons_zero, List.set_cons_succ]
    have h6 : xv 6 = _ := h6
    rw [h6]; clear h6
    generalize xv 0 = y0 at *
    generalize xv 1 = y1 at *
    generalize xv 2 = y2 at *
    generalize xv 3 = y3 at *
    generalize xv 4 = y4 at *
    generalize xv 5 = y5 at *
    have Q4 : Hid (Lies wE (w.heap.size + 1) 73 (thC y (.slice A' x.sn.length c'))) := h4
    have Q5 : Hid (Lies wE (w.heap.size + 1 + 1) 63 (akC (reqA l y))) := h5
    have HBZ := Lib.hid (HBL.out _ hS)
    have HOZ := Lib.hid (owns_kept HO.out hS (fun r cur hr hl (e : r = _ ∨ r = _) => by rcases e with e | e <;> subst e; exact absurd (hl.same H4.out).1 (by decide); exact absurd (hl.same H5.out).1 (by decide)))
    clear hS h4 h5 HSN HBL H4 H5 HG3 HO HB HRQ
    generalize hzz : reqA l y = z at *
    have HZE := Lib.hid hzz
    clear hzz
    have z0 := (Q4.out.cell 0).trans (show _ = some (Value.int .i64 y.at_) from rfl)
    have z1 := (Q4.out.cell 1).trans (show _ = some (Value.int .i64 y.ph) from rfl)
    have z2 := (Q4.out.cell 2).trans (show _ = some (Value.int .i64 y.rg) from rfl)
    have z3 := (Q4.out.cell 3).trans (show _ = some (Value.int .i64 y.st) from rfl)
    have z4 := (Q4.out.cell 4).trans (show _ = some (Value.int .u64 (y.tk : Int)) from rfl)
    have z5 := (Q4.out.cell 5).trans (show _ = some (Value.int .u64 (y.r 0 : Int)) from rfl)
    have z6 := (Q4.out.cell 6).trans (show _ = some (Value.int .u64 (y.r 1 : Int)) from rfl)
    have z7 := (Q4.out.cell 7).trans (show _ = some (Value.int .u64 (y.r 2 : Int)) from rfl)
    have z8 := (Q4.out.cell 8).trans (show _ = some (Value.int .u64 (y.r 3 : Int)) from rfl)
    have z9 := (Q4.out.cell 9).trans (show _ = some (Value.int .u64 (y.r 4 : Int)) from rfl)
    have z10 := (Q4.out.cell 10).trans (show _ = some (Value.int .u64 (y.r 5 : Int)) from rfl)
    have z11 := (Q4.out.cell 11).trans (show _ = some (Value.int .u64 (y.r 6 : Int)) from rfl)
    have z12 := (Q4.out.cell 12).trans (show _ = some (Value.int .u64 (y.r 7 : Int)) from rfl)
    have z13 := (Q4.out.cell 13).trans (show _ = some ((.slice A' x.sn.length c')) from rfl)
    have zl := Q4.out.lt
    have k0 := (Q5.out.cell 0).trans (show _ = some (.int .i64 z.kd) from rfl)
    have k1 := (Q5.out.cell 1).trans (show _ = some (.int .i64 z.rg) from rfl)
    have k2 := (Q5.out.cell 2).trans (show _ = some (.int .i64 z.md) from rfl)
    have k3 := (Q5.out.cell 3).trans (show _ = some (.int .i64 z.rd) from rfl)
    have k4 := (Q5.out.cell 4).trans (show _ = some (.int .u64 (z.tk : Int)) from rfl)
    have k5 := (Q5.out.cell 5).trans (show _ = some (.int .u64 (z.vl : Int)) from rfl)
    go_wp2
    exact bodyPost_ret (v := .tuple #[.agg (thC y (.slice A' x.sn.length c')), .agg (akC z), .int .i64 0]) (by simp [results, Tryz.results76, go_sem, z0, z1, z2, z3, z4, z5, z6, z7, z8, z9, z10, z11, z12, z13, k0, k1, k2, k3, k4, k5]) rfl ⟨A', c', by rw [HYE.out, HZE.out], HOZ.out, HBZ.out⟩
  ·have e2 : (x.ph == 0) = false := by rw [beq_eq_false_iff_ne]; exact hph
   have HY := Lib.hid (nxT_not (l := l) (fun h => hph h.2))
   replace HG3 : Hid (Lies w4 w.heap.size 73 (thC (nxT l x) (.slice A' x.sn.length c'))) := by show Lies _ _ _ _; rw [HY.out]; exact HG3.out
   clear hst hph HADV
   generalize hyy : nxT l x = y at *
   have HYE := Lib.hid hyy
   clear hyy
   go_wp2_with fail
   try clear c1 c3 cl
   generalize hw9 : w4 = w9 at *
   clear hw9
   have HSN := Lib.hid (fun (q : World) (hq : Kept (twoRows (w.heap.size + 1) (w.heap.size + 1 + 1)) w9 q) => HG3.out.kept hq (fun (e : w.heap.size = _ ∨ w.heap.size = _) => by omega))
   have HBL := Lib.hid (fun (q : World) (hq : Kept (twoRows (w.heap.size + 1) (w.heap.size + 1 + 1)) w9 q) => HB.out.trans (hq.below HB.out.size (fun k hk (e : k = _ ∨ k = _) => by omega)))
   refine wp_region_rely (fun q => Kept (twoRows (w.heap.size + 1) (w.heap.size + 1 + 1)) w9 q) (rgV [some (.agg (thC y (.slice A' x.sn.length c'))), some (.slice A l.length c), some (.agg (thC y (.slice A' x.sn.length c'))), some (.agg (akC (reqA l y))), none, none, some (.int .i64 0), none, none] (twF 4 5 7 8 (w.heap.size + 1) (w.heap.size + 1 + 1) 73 63 (thC y (.slice A' x.sn.length c')) (akC (reqA l y)) thZ akZ)) [some 27, some 28, some 29, some 30, none, none, some 6] [[], [], [], [1, 2], [0, 7], [3, 8], []] [[], [], [], [1, 2], [0, 1, 2, 7], [0, 1, 2, 3, 7, 8], [0, 1, 2, 3, 7, 8]] [[1, 2, 3, 7, 8], [0, 2, 4, 7, 8], [0, 1, 4, 7, 8], [0, 7, 8], [3, 8], [4], [4, 5]] [0, 1, 2, 3, 4, 5, 6] 9 (by kernel_rfl) (by kernel_rfl) (by kernel_rfl) (by kernel_rfl) ?rS ?rI ?rT ?rE
   case rS => exact Kept.drew _ _
   case rI =>
    intro j h1 h2
    have h1 : j < 9 := h1
    have h2 : 7 ≤ j := h2
    have hj : j = 7 ∨ j = 8 := by omega
    rcases hj with rfl | rfl
    ·exact H4.out.drewN 1
    ·exact H5.out.drewN 1
   case rT =>
    refine RelySteps.cons (RelyStep.mk [] [1, 2, 3, 7, 8] rfl rfl rfl (fun xv wS hS hV bq hb K hK => ?_)) ?_
    ·clear hV
     simp only [putsOf, List.foldl_cons, List.foldl_nil, List.getD_cons_zero, List.getD_cons_succ, List.getD_nil, cond_true, cond_false, Act.put, List.setIfInBounds_toArray, List.set_cons_zero, List.set_cons_succ] at hb
     subst hb
     rw [if_pos (by rfl)]
     (have HZ := Lib.hid (HSN.out _ hS); have HSS := Lib.hid hS; have c0 := (HZ.out.cell 0).trans (show _ = some (Value.int .i64 y.at_) from rfl); have c1 := (HZ.out.cell 1).trans (show _ = some (Value.int .i64 y.ph) from rfl); have c2 := (HZ.out.cell 2).trans (show _ = some (Value.int .i64 y.rg) from rfl); have c3 := (HZ.out.cell 3).trans (show _ = some (Value.int .i64 y.st) from rfl); have c4 := (HZ.out.cell 4).trans (show _ = some (Value.int .u64 (y.tk : Int)) from rfl); have c5 := (HZ.out.cell 5).trans (show _ = some (Value.int .u64 (y.r 0 : Int)) from rfl); have c6 := (HZ.out.cell 6).trans (show _ = some (Value.int .u64 (y.r 1 : Int)) from rfl); have c7 := (HZ.out.cell 7).trans (show _ = some (Value.int .u64 (y.r 2 : Int)) from rfl); have c8 := (HZ.out.cell 8).trans (show _ = some (Value.int .u64 (y.r 3 : Int)) from rfl); have c9 := (HZ.out.cell 9).trans (show _ = some (Value.int .u64 (y.r 4 : Int)) from rfl); have c10 := (HZ.out.cell 10).trans (show _ = some (Value.int .u64 (y.r 5 : Int)) from rfl); have c11 := (HZ.out.cell 11).trans (show _ = some (Value.int .u64 (y.r 6 : Int)) from rfl); have c12 := (HZ.out.cell 12).trans (show _ = some (Value.int .u64 (y.r 7 : Int)) from rfl); have c13 := (HZ.out.cell 13).trans (show _ = some (.slice A' x.sn.length c') from rfl); have cl := HZ.out.lt)
     go_wp2_with fail
     exact hK.out _ _ ⟨_, rfl, hS, rfl, AllP.same _⟩
    refine RelySteps.cons (RelyStep.mk [] [0, 2, 4, 7, 8] rfl rfl rfl (fun xv wS hS hV bq hb K hK => ?_)) ?_
    ·clear hV
     simp only [putsOf, List.foldl_cons, List.foldl_nil, List.getD_cons_zero, List.getD_cons_succ, List.getD_nil, cond_true, cond_false, Act.put, List.setIfInBounds_toArray, List.set_cons_zero, List.set_cons_succ] at hb
     subst hb
     rw [if_pos (by rfl)]
     go_wp2_with fail
     exact hK.out _ _ ⟨_, rfl, hS, rfl, AllP.same _⟩
    refine RelySteps.cons (RelyStep.mk [] [0, 1, 4, 7, 8] rfl rfl rfl (fun xv wS hS hV bq hb K hK => ?_)) ?_
    ·clear hV
     simp only [putsOf, List.foldl_cons, List.foldl_nil, List.getD_cons_zero, List.getD_cons_succ, List.getD_nil, cond_true, cond_false, Act.put, List.setIfInBounds_toArray, List.set_cons_zero, List.set_cons_succ] at hb
     subst hb
     rw [if_pos (by rfl)]
     (have HZ := Lib.hid (HSN.out _ hS); have c0 := (HZ.out.cell 0).trans (show _ = some (Value.int .i64 y.at_) from rfl); have c1 := (HZ.out.cell 1).trans (show _ = some (Value.int .i64 y.ph) from rfl); have c2 := (HZ.out.cell 2).trans (show _ = some (Value.int .i64 y.rg) from rfl); have c3 := (HZ.out.cell 3).trans (show _ = some (Value.int .i64 y.st) from rfl); have c4 := (HZ.out.cell 4).trans (show _ = some (Value.int .u64 (y.tk : Int)) from rfl); have c5 := (HZ.out.cell 5).trans (show _ = some (Value.int .u64 (y.r 0 : Int)) from rfl); have c6 := (HZ.out.cell 6).trans (show _ = some (Value.int .u64 (y.r 1 : Int)) from rfl); have c7 := (HZ.out.cell 7).trans (show _ = some (Value.int .u64 (y.r 2 : Int)) from rfl); have c8 := (HZ.out.cell 8).trans (show _ = some (Value.int .u64 (y.r 3 : Int)) from rfl); have c9 := (HZ.out.cell 9).trans (show _ = some (Value.int .u64 (y.r 4 : Int)) from rfl); have c10 := (HZ.out.cell 10).trans (show _ = some (Value.int .u64 (y.r 5 : Int)) from rfl); have c11 := (HZ.out.cell 11).trans (show _ = some (Value.int .u64 (y.r 6 : Int)) from rfl); have c12 := (HZ.out.cell 12).trans (show _ = some (Value.int .u64 (y.r 7 : Int)) from rfl); have c13 := (HZ.out.cell 13).trans (show _ = some (.slice A' x.sn.length c') from rfl); have cl := HZ.out.lt)
     go_wp2_with fail
     exact hK.out _ _ ⟨_, rfl, hS, rfl, AllP.same _⟩
    refine RelySteps.cons (RelyStep.mk [1, 2] [0, 7, 8] rfl rfl rfl (fun xv wS hS hV bq hb K hK => ?_)) ?_
    ·obtain ⟨h1, h2, _⟩ := hV
     have h1 : xv 1 = _ := h1
     have h2 : xv 2 = _ := h2
     simp only [putsOf, List.foldl_cons, List.foldl_nil, List.getD_cons_zero, List.getD_cons_succ, List.getD_nil, cond_true, cond_false, Act.put, List.setIfInBounds_toArray, List.set_cons_zero, List.set_cons_succ, h1, h2] at hb
     clear h1
     clear h2
     subst hb
     rw [if_pos (by rfl)]
     have HSS := Lib.hid hS
     clear hS
     go_wp2_with fail
     refine (HRQ.out _ _ (HH.out _ (HBL.out _ HSS.out))).mono ?_
     rintro e w' ⟨rfl, hbm⟩
     have hk9 := Kept.of_below hbm
     exact hK.out _ _ ⟨_, rfl, HSS.out.trans (hk9.mono (T := twoRows (w.heap.size + 1) (w.heap.size + 1 + 1)) (fun _ _ e => e.elim)) (fun _ _ e => e), rfl, AllP.of _ (fun j hj u h => rgV_mono (twF_kept (fun e => e) (fun e => e) hk9) h)⟩
    refine RelySteps.cons (RelyStep.mk [0, 7] [3, 8] rfl rfl rfl (fun xv wS hS hV bq hb K hK => ?_)) ?_
    ·obtain ⟨h0, h7, _⟩ := hV
     have h0 : xv 0 = _ := h0
     simp only [putsOf, List.foldl_cons, List.foldl_nil, List.getD_cons_zero, List.getD_cons_succ, List.getD_nil, cond_true, cond_false, Act.put, List.setIfInBounds_toArray, List.set_cons_zero, List.set_cons_succ, h0] at hb
     clear h0
     generalize xv 7 = y7 at *
     subst hb
     rw [if_pos (by rfl)]
     have q7 : Lies wS (w.heap.size + 1) 73 thZ := h7
     have hk9 := kept_rowT (w := wS) (g := w.heap.size + 1) (thC y (.slice A' x.sn.length c'))
     refine wp_store_row _ _ _ rfl (w.heap.size + 1) (thC y (.slice A' x.sn.length c')) rfl rfl 73 thZ q7 infoTh rfl (thC_one y rfl) ?_
     exact hK.out _ _ ⟨undef, rfl, hS.trans (hk9.mono (T := twoRows (w.heap.size + 1) (w.heap.size + 1 + 1)) (fun _ _ e => .inl e)) (fun _ _ e => e), lies_row q7 _, AllP.of _ (fun j hj u h => rgV_mono (twF_kept4 (all_in (fun j => j != 4 && j != 7) rfl hj) (fun (e : w.heap.size + 1 + 1 = w.heap.size + 1) => by omega) hk9) h)⟩
    refine RelySteps.cons (RelyStep.mk [3, 8] [4] rfl rfl rfl (fun xv wS hS hV bq hb K hK => ?_)) ?_
    ·obtain ⟨h3, h8, _⟩ := hV
     have h3 : xv 3 = _ := h3
     simp only [putsOf, List.foldl_cons, List.foldl_nil, List.getD_cons_zero, List.getD_cons_succ, List.getD_nil, cond_true, cond_false, Act.put, List.setIfInBounds_toArray, List.set_cons_zero, List.set_cons_succ, h3] at hb
     clear h3
     generalize xv 8 = y8 at *
     subst hb
     rw [if_pos (by rfl)]
     have q8 : Lies wS (w.heap.size + 1 + 1) 63 akZ := h8
     have hk9 := kept_rowT (w := wS) (g := w.heap.size + 1 + 1) (akC (reqA l y))
     refine wp_store_row _ _ _ rfl (w.heap.size + 1 + 1) (akC (reqA l y)) rfl rfl 63 akZ q8 infoAk rfl (akC_one _) ?_
     exact hK.out _ _ ⟨undef, rfl, hS.trans (hk9.mono (T := twoRows (w.heap.size + 1) (w.heap.size + 1 + 1)) (fun _ _ e => .inr e)) (fun _ _ e => e), lies_row q8 _, AllP.of _ (fun j hj u h => rgV_mono (twF_kept5 (all_in (fun j => j != 5 && j != 8) rfl hj) (fun (e : w.heap.size + 1 = w.heap.size + 1 + 1) => by omega) hk9) h)⟩
    refine RelySteps.cons (RelyStep.mk [] [4, 5] rfl rfl rfl (fun xv wS hS hV bq hb K hK => ?_)) ?_
    ·clear hV
     simp only [putsOf, List.foldl_cons, List.foldl_nil, List.getD_cons_zero, List.getD_cons_succ, List.getD_nil, cond_true, cond_false, Act.put, List.setIfInBounds_toArray, List.set_cons_zero, List.set_cons_succ] at hb
     subst hb
     rw [if_pos (by rfl)]
     go_wp2_with fail
     exact hK.out _ _ ⟨_, rfl, hS, rfl, AllP.same _⟩
    exact RelySteps.nil
   case rE =>
    intro xv wE hS hV
    have h4 := hV 4 (by decide) (by decide)
    have h5 := hV 5 (by decide) (by decide)
    have h6 := hV 6 (by decide) (by decide)
    clear hV
    simp only [putsOf, List.foldl_cons, List.foldl_nil, List.getD_cons_zero, List.getD_cons_succ, List.getD_nil, cond_true, cond_false, Act.put, List.setIfInBounds_toArray, List.set_cons_zero, List.set_cons_succ]
    have h6 : xv 6 = _ := h6
    rw [h6]; clear h6
    generalize xv 0 = y0 at *
    generalize xv 1 = y1 at *
    generalize xv 2 = y2 at *
    generalize xv 3 = y3 at *
    generalize xv 4 = y4 at *
    generalize xv 5 = y5 at *
    have Q4 : Hid (Lies wE (w.heap.size + 1) 73 (thC y (.slice A' x.sn.length c'))) := h4
    have Q5 : Hid (Lies wE (w.heap.size + 1 + 1) 63 (akC (reqA l y))) := h5
    have HBZ := Lib.hid (HBL.out _ hS)
    have HOZ := Lib.hid (owns_kept HO.out hS (fun r cur hr hl (e : r = _ ∨ r = _) => by rcases e with e | e <;> subst e; exact absurd (hl.same H4.out).1 (by decide); exact absurd (hl.same H5.out).1 (by decide)))
    clear hS h4 h5 HSN HBL H4 H5 HG3 HO HB HRQ
    generalize hzz : reqA l y = z at *
    have HZE := Lib.hid hzz
    clear hzz
    have z0 := (Q4.out.cell 0).trans (show _ = some (Value.int .i64 y.at_) from rfl)
    have z1 := (Q4.out.cell 1).trans (show _ = some (Value.int .i64 y.ph) from rfl)
    have z2 := (Q4.out.cell 2).trans (show _ = some (Value.int .i64 y.rg) from rfl)
    have z3 := (Q4.out.cell 3).trans (show _ = some (Value.int .i64 y.st) from rfl)
    have z4 := (Q4.out.cell 4).trans (show _ = some (Value.int .u64 (y.tk : Int)) from rfl)
    have z5 := (Q4.out.cell 5).trans (show _ = some (Value.int .u64 (y.r 0 : Int)) from rfl)
    have z6 := (Q4.out.cell 6).trans (show _ = some (Value.int .u64 (y.r 1 : Int)) from rfl)
    have z7 := (Q4.out.cell 7).trans (show _ = some (Value.int .u64 (y.r 2 : Int)) from rfl)
    have z8 := (Q4.out.cell 8).trans (show _ = some (Value.int .u64 (y.r 3 : Int)) from rfl)
    have z9 := (Q4.out.cell 9).trans (show _ = some (Value.int .u64 (y.r 4 : Int)) from rfl)
    have z10 := (Q4.out.cell 10).trans (show _ = some (Value.int .u64 (y.r 5 : Int)) from rfl)
    have z11 := (Q4.out.cell 11).trans (show _ = some (Value.int .u64 (y.r 6 : Int)) from rfl)
    have z12 := (Q4.out.cell 12).trans (show _ = some (Value.int .u64 (y.r 7 : Int)) from rfl)
    have z13 := (Q4.out.cell 13).trans (show _ = some ((.slice A' x.sn.length c')) from rfl)
    have zl := Q4.out.lt
    have k0 := (Q5.out.cell 0).trans (show _ = some (.int .i64 z.kd) from rfl)
    have k1 := (Q5.out.cell 1).trans (show _ = some (.int .i64 z.rg) from rfl)
    have k2 := (Q5.out.cell 2).trans (show _ = some (.int .i64 z.md) from rfl)
    have k3 := (Q5.out.cell 3).trans (show _ = some (.int .i64 z.rd) from rfl)
    have k4 := (Q5.out.cell 4).trans (show _ = some (.int .u64 (z.tk : Int)) from rfl)
    have k5 := (Q5.out.cell 5).trans (show _ = some (.int .u64 (z.vl : Int)) from rfl)
    go_wp2
    exact bodyPost_ret (v := .tuple #[.agg (thC y (.slice A' x.sn.length c')), .agg (akC z), .int .i64 0]) (by simp [results, Tryz.results76, go_sem, z0, z1, z2, z3, z4, z5, z6, z7, z8, z9, z10, z11, z12, z13, k0, k1, k2, k3, k4, k5]) rfl ⟨A', c', by rw [HYE.out, HZE.out], HOZ.out, HBZ.out⟩
 ·have e1 : (x.st == 0) = false := by rw [beq_eq_false_iff_ne]; exact hst
  have HY := Lib.hid (nxT_not (l := l) (fun h => hst h.1))
  replace HG3 : Hid (Lies w4 w.heap.size 73 (thC (nxT l x) (.slice A' x.sn.length c'))) := by show Lies _ _ _ _; rw [HY.out]; exact HG3.out
  clear hst HADV
  generalize hyy : nxT l x = y at *
  have HYE := Lib.hid hyy
  clear hyy
  go_wp2_with fail
  try clear c1 c3 cl
  generalize hw9 : w4 = w9 at *
  clear hw9
  have HSN := Lib.hid (fun (q : World) (hq : Kept (twoRows (w.heap.size + 1) (w.heap.size + 1 + 1)) w9 q) => HG3.out.kept hq (fun (e : w.heap.size = _ ∨ w.heap.size = _) => by omega))
  have HBL := Lib.hid (fun (q : World) (hq : Kept (twoRows (w.heap.size + 1) (w.heap.size + 1 + 1)) w9 q) => HB.out.trans (hq.below HB.out.size (fun k hk (e : k = _ ∨ k = _) => by omega)))
  refine wp_region_rely (fun q => Kept (twoRows (w.heap.size + 1) (w.heap.size + 1 + 1)) w9 q) (rgV [some (.agg (thC y (.slice A' x.sn.length c'))), some (.slice A l.length c), some (.agg (thC y (.slice A' x.sn.length c'))), some (.agg (akC (reqA l y))), none, none, some (.int .i64 0), none, none] (twF 4 5 7 8 (w.heap.size + 1) (w.heap.size + 1 + 1) 73 63 (thC y (.slice A' x.sn.length c')) (akC (reqA l y)) thZ akZ)) [some 27, some 28, some 29, some 30, none, none, some 6] [[], [], [], [1, 2], [0, 7], [3, 8], []] [[], [], [], [1, 2], [0, 1, 2, 7], [0, 1, 2, 3, 7, 8], [0, 1, 2, 3, 7, 8]] [[1, 2, 3, 7, 8], [0, 2, 4, 7, 8], [0, 1, 4, 7, 8], [0, 7, 8], [3, 8], [4], [4, 5]] [0, 1, 2, 3, 4, 5, 6] 9 (by kernel_rfl) (by kernel_rfl) (by kernel_rfl) (by kernel_rfl) ?rS ?rI ?rT ?rE
  case rS => exact Kept.drew _ _
  case rI =>
   intro j h1 h2
   have h1 : j < 9 := h1
   have h2 : 7 ≤ j := h2
   have hj : j = 7 ∨ j = 8 := by omega
   rcases hj with rfl | rfl
   ·exact H4.out.drewN 1
   ·exact H5.out.drewN 1
  case rT =>
   refine RelySteps.cons (RelyStep.mk [] [1, 2, 3, 7, 8] rfl rfl rfl (fun xv wS hS hV bq hb K hK => ?_)) ?_
   ·clear hV
    simp only [putsOf, List.foldl_cons, List.foldl_nil, List.getD_cons_zero, List.getD_cons_succ, List.getD_nil, cond_true, cond_false, Act.put, List.setIfInBounds_toArray, List.set_cons_zero, List.set_cons_succ] at hb
    subst hb
    rw [if_pos (by rfl)]
    (have HZ := Lib.hid (HSN.out _ hS); have HSS := Lib.hid hS; have c0 := (HZ.out.cell 0).trans (show _ = some (Value.int .i64 y.at_) from rfl); have c1 := (HZ.out.cell 1).trans (show _ = some (Value.int .i64 y.ph) from rfl); have c2 := (HZ.out.cell 2).trans (show _ = some (Value.int .i64 y.rg) from rfl); have c3 := (HZ.out.cell 3).trans (show _ = some (Value.int .i64 y.st) from rfl); have c4 := (HZ.out.cell 4).trans (show _ = some (Value.int .u64 (y.tk : Int)) from rfl); have c5 := (HZ.out.cell 5).trans (show _ = some (Value.int .u64 (y.r 0 : Int)) from rfl); have c6 := (HZ.out.cell 6).trans (show _ = some (Value.int .u64 (y.r 1 : Int)) from rfl); have c7 := (HZ.out.cell 7).trans (show _ = some (Value.int .u64 (y.r 2 : Int)) from rfl); have c8 := (HZ.out.cell 8).trans (show _ = some (Value.int .u64 (y.r 3 : Int)) from rfl); have c9 := (HZ.out.cell 9).trans (show _ = some (Value.int .u64 (y.r 4 : Int)) from rfl); have c10 := (HZ.out.cell 10).trans (show _ = some (Value.int .u64 (y.r 5 : Int)) from rfl); have c11 := (HZ.out.cell 11).trans (show _ = some (Value.int .u64 (y.r 6 : Int)) from rfl); have c12 := (HZ.out.cell 12).trans (show _ = some (Value.int .u64 (y.r 7 : Int)) from rfl); have c13 := (HZ.out.cell 13).trans (show _ = some (.slice A' x.sn.length c') from rfl); have cl := HZ.out.lt)
    go_wp2_with fail
    exact hK.out _ _ ⟨_, rfl, hS, rfl, AllP.same _⟩
   refine RelySteps.cons (RelyStep.mk [] [0, 2, 4, 7, 8] rfl rfl rfl (fun xv wS hS hV bq hb K hK => ?_)) ?_
   ·clear hV
    simp only [putsOf, List.foldl_cons, List.foldl_nil, List.getD_cons_zero, List.getD_cons_succ, List.getD_nil, cond_true, cond_false, Act.put, List.setIfInBounds_toArray, List.set_cons_zero, List.set_cons_succ] at hb
    subst hb
    rw [if_pos (by rfl)]
    go_wp2_with fail
    exact hK.out _ _ ⟨_, rfl, hS, rfl, AllP.same _⟩
   refine RelySteps.cons (RelyStep.mk [] [0, 1, 4, 7, 8] rfl rfl rfl (fun xv wS hS hV bq hb K hK => ?_)) ?_
   ·clear hV
    simp only [putsOf, List.foldl_cons, List.foldl_nil, List.getD_cons_zero, List.getD_cons_succ, List.getD_nil, cond_true, cond_false, Act.put, List.setIfInBounds_toArray, List.set_cons_zero, List.set_cons_succ] at hb
    subst hb
    rw [if_pos (by rfl)]
    (have HZ := Lib.hid (HSN.out _ hS); have c0 := (HZ.out.cell 0).trans (show _ = some (Value.int .i64 y.at_) from rfl); have c1 := (HZ.out.cell 1).trans (show _ = some (Value.int .i64 y.ph) from rfl); have c2 := (HZ.out.cell 2).trans (show _ = some (Value.int .i64 y.rg) from rfl); have c3 := (HZ.out.cell 3).trans (show _ = some (Value.int .i64 y.st) from rfl); have c4 := (HZ.out.cell 4).trans (show _ = some (Value.int .u64 (y.tk : Int)) from rfl); have c5 := (HZ.out.cell 5).trans (show _ = some (Value.int .u64 (y.r 0 : Int)) from rfl); have c6 := (HZ.out.cell 6).trans (show _ = some (Value.int .u64 (y.r 1 : Int)) from rfl); have c7 := (HZ.out.cell 7).trans (show _ = some (Value.int .u64 (y.r 2 : Int)) from rfl); have c8 := (HZ.out.cell 8).trans (show _ = some (Value.int .u64 (y.r 3 : Int)) from rfl); have c9 := (HZ.out.cell 9).trans (show _ = some (Value.int .u64 (y.r 4 : Int)) from rfl); have c10 := (HZ.out.cell 10).trans (show _ = some (Value.int .u64 (y.r 5 : Int)) from rfl); have c11 := (HZ.out.cell 11).trans (show _ = some (Value.int .u64 (y.r 6 : Int)) from rfl); have c12 := (HZ.out.cell 12).trans (show _ = some (Value.int .u64 (y.r 7 : Int)) from rfl); have c13 := (HZ.out.cell 13).trans (show _ = some (.slice A' x.sn.length c') from rfl); have cl := HZ.out.lt)
    go_wp2_with fail
    exact hK.out _ _ ⟨_, rfl, hS, rfl, AllP.same _⟩
   refine RelySteps.cons (RelyStep.mk [1, 2] [0, 7, 8] rfl rfl rfl (fun xv wS hS hV bq hb K hK => ?_)) ?_
   ·obtain ⟨h1, h2, _⟩ := hV
    have h1 : xv 1 = _ := h1
    have h2 : xv 2 = _ := h2
    simp only [putsOf, List.foldl_cons, List.foldl_nil, List.getD_cons_zero, List.getD_cons_succ, List.getD_nil, cond_true, cond_false, Act.put, List.setIfInBounds_toArray, List.set_cons_zero, List.set_cons_succ, h1, h2] at hb
    clear h1
    clear h2
    subst hb
    rw [if_pos (by rfl)]
    have HSS := Lib.hid hS
    clear hS
    go_wp2_with fail
    refine (HRQ.out _ _ (HH.out _ (HBL.out _ HSS.out))).mono ?_
    rintro e w' ⟨rfl, hbm⟩
    have hk9 := Kept.of_below hbm
    exact hK.out _ _ ⟨_, rfl, HSS.out.trans (hk9.mono (T := twoRows (w.heap.size + 1) (w.heap.size + 1 + 1)) (fun _ _ e => e.elim)) (fun _ _ e => e), rfl, AllP.of _ (fun j hj u h => rgV_mono (twF_kept (fun e => e) (fun e => e) hk9) h)⟩
   refine RelySteps.cons (RelyStep.mk [0, 7] [3, 8] rfl rfl rfl (fun xv wS hS hV bq hb K hK => ?_)) ?_
   ·obtain ⟨h0, h7, _⟩ := hV
    have h0 : xv 0 = _ := h0
    simp only [putsOf, List.foldl_cons, List.foldl_nil, List.getD_cons_zero, List.getD_cons_succ, List.getD_nil, cond_true, cond_false, Act.put, List.setIfInBounds_toArray, List.set_cons_zero, List.set_cons_succ, h0] at hb
    clear h0
    generalize xv 7 = y7 at *
    subst hb
    rw [if_pos (by rfl)]
    have q7 : Lies wS (w.heap.size + 1) 73 thZ := h7
    have hk9 := kept_rowT (w := wS) (g := w.heap.size + 1) (thC y (.slice A' x.sn.length c'))
    refine wp_store_row _ _ _ rfl (w.heap.size + 1) (thC y (.slice A' x.sn.length c')) rfl rfl 73 thZ q7 infoTh rfl (thC_one y rfl) ?_
    exact hK.out _ _ ⟨undef, rfl, hS.trans (hk9.mono (T := twoRows (w.heap.size + 1) (w.heap.size + 1 + 1)) (fun _ _ e => .inl e)) (fun _ _ e => e), lies_row q7 _, AllP.of _ (fun j hj u h => rgV_mono (twF_kept4 (all_in (fun j => j != 4 && j != 7) rfl hj) (fun (e : w.heap.size + 1 + 1 = w.heap.size + 1) => by omega) hk9) h)⟩
   refine RelySteps.cons (RelyStep.mk [3, 8] [4] rfl rfl rfl (fun xv wS hS hV bq hb K hK => ?_)) ?_
   ·obtain ⟨h3, h8, _⟩ := hV
    have h3 : xv 3 = _ := h3
    simp only [putsOf, List.foldl_cons, List.foldl_nil, List.getD_cons_zero, List.getD_cons_succ, List.getD_nil, cond_true, cond_false, Act.put, List.setIfInBounds_toArray, List.set_cons_zero, List.set_cons_succ, h3] at hb
    clear h3
    generalize xv 8 = y8 at *
    subst hb
    rw [if_pos (by rfl)]
    have q8 : Lies wS (w.heap.size + 1 + 1) 63 akZ := h8
    have hk9 := kept_rowT (w := wS) (g := w.heap.size + 1 + 1) (akC (reqA l y))
    refine wp_store_row _ _ _ rfl (w.heap.size + 1 + 1) (akC (reqA l y)) rfl rfl 63 akZ q8 infoAk rfl (akC_one _) ?_
    exact hK.out _ _ ⟨undef, rfl, hS.trans (hk9.mono (T := twoRows (w.heap.size + 1) (w.heap.size + 1 + 1)) (fun _ _ e => .inr e)) (fun _ _ e => e), lies_row q8 _, AllP.of _ (fun j hj u h => rgV_mono (twF_kept5 (all_in (fun j => j != 5 && j != 8) rfl hj) (fun (e : w.heap.size + 1 = w.heap.size + 1 + 1) => by omega) hk9) h)⟩
   refine RelySteps.cons (RelyStep.mk [] [4, 5] rfl rfl rfl (fun xv wS hS hV bq hb K hK => ?_)) ?_
   ·clear hV
    simp only [putsOf, List.foldl_cons, List.foldl_nil, List.getD_cons_zero, List.getD_cons_succ, List.getD_nil, cond_true, cond_false, Act.put, List.setIfInBounds_toArray, List.set_cons_zero, List.set_cons_succ] at hb
    subst hb
    rw [if_pos (by rfl)]
    go_wp2_with fail
    exact hK.out _ _ ⟨_, rfl, hS, rfl, AllP.same _⟩
   exact RelySteps.nil
  case rE =>
   intro xv wE hS hV
   have h4 := hV 4 (by decide) (by decide)
   have h5 := hV 5 (by decide) (by decide)
   have h6 := hV 6 (by decide) (by decide)
   clear hV
   simp only [putsOf, List.foldl_cons, List.foldl_nil, List.getD_cons_zero, List.getD_cons_succ, List.getD_nil, cond_true, cond_false, Act.put, List.setIfInBounds_toArray, List.set_cons_zero, List.set_cons_succ]
   have h6 : xv 6 = _ := h6
   rw [h6]; clear h6
   generalize xv 0 = y0 at *
   generalize xv 1 = y1 at *
   generalize xv 2 = y2 at *
   generalize xv 3 = y3 at *
   generalize xv 4 = y4 at *
   generalize xv 5 = y5 at *
   have Q4 : Hid (Lies wE (w.heap.size + 1) 73 (thC y (.slice A' x.sn.length c'))) := h4
   have Q5 : Hid (Lies wE (w.heap.size + 1 + 1) 63 (akC (reqA l y))) := h5
   have HBZ := Lib.hid (HBL.out _ hS)
   have HOZ := Lib.hid (owns_kept HO.out hS (fun r cur hr hl (e : r = _ ∨ r = _) => by rcases e with e | e <;> subst e; exact absurd (hl.same H4.out).1 (by decide); exact absurd (hl.same H5.out).1 (by decide)))
   clear hS h4 h5 HSN HBL H4 H5 HG3 HO HB HRQ
   generalize hzz : reqA l y = z at *
   have HZE := Lib.hid hzz
   clear hzz
   have z0 := (Q4.out.cell 0).trans (show _ = some (Value.int .i64 y.at_) from rfl)
   have z1 := (Q4.out.cell 1).trans (show _ = some (Value.int .i64 y.ph) from rfl)
   have z2 := (Q4.out.cell 2).trans (show _ = some (Value.int .i64 y.rg) from rfl)
   have z3 := (Q4.out.cell 3).trans (show _ = some (Value.int .i64 y.st) from rfl)
   have z4 := (Q4.out.cell 4).trans (show _ = some (Value.int .u64 (y.tk : Int)) from rfl)
   have z5 := (Q4.out.cell 5).trans (show _ = some (Value.int .u64 (y.r 0 : Int)) from rfl)
   have z6 := (Q4.out.cell 6).trans (show _ = some (Value.int .u64 (y.r 1 : Int)) from rfl)
   have z7 := (Q4.out.cell 7).trans (show _ = some (Value.int .u64 (y.r 2 : Int)) from rfl)
   have z8 := (Q4.out.cell 8).trans (show _ = some (Value.int .u64 (y.r 3 : Int)) from rfl)
   have z9 := (Q4.out.cell 9).trans (show _ = some (Value.int .u64 (y.r 4 : Int)) from rfl)
   have z10 := (Q4.out.cell 10).trans (show _ = some (Value.int .u64 (y.r 5 : Int)) from rfl)
   have z11 := (Q4.out.cell 11).trans (show _ = some (Value.int .u64 (y.r 6 : Int)) from rfl)
   have z12 := (Q4.out.cell 12).trans (show _ = some (Value.int .u64 (y.r 7 : Int)) from rfl)
   have z13 := (Q4.out.cell 13).trans (show _ = some ((.slice A' x.sn.length c')) from rfl)
   have zl := Q4.out.lt
   have k0 := (Q5.out.cell 0).trans (show _ = some (.int .i64 z.kd) from rfl)
   have k1 := (Q5.out.cell 1).trans (show _ = some (.int .i64 z.rg) from rfl)
   have k2 := (Q5.out.cell 2).trans (show _ = some (.int .i64 z.md) from rfl)
   have k3 := (Q5.out.cell 3).trans (show _ = some (.int .i64 z.rd) from rfl)
   have k4 := (Q5.out.cell 4).trans (show _ = some (.int .u64 (z.tk : Int)) from rfl)
   have k5 := (Q5.out.cell 5).trans (show _ = some (.int .u64 (z.vl : Int)) from rfl)
   go_wp2
   exact bodyPost_ret (v := .tuple #[.agg (thC y (.slice A' x.sn.length c')), .agg (akC z), .int .i64 0]) (by simp [results, Tryz.results76, go_sem, z0, z1, z2, z3, z4, z5, z6, z7, z8, z9, z10, z11, z12, z13, k0, k1, k2, k3, k4, k5]) rfl ⟨A', c', by rw [HYE.out, HZE.out], HOZ.out, HBZ.out⟩
def endT (x : Th) : Th := { x with at_ := x.at_ + 1, ph := 0, rg := 0, tk := 0 }
def regT (i : In) (x : Th) (e : Ev) (v : Nat) : Th :=
 if e.kd = 2 then setR x i.b.toNat 0
 else if e.kd = 4 then setR (setR x i.a.toNat v) i.b.toNat 0
 else if e.kd = 5 then setR x i.b.toNat 1
 else if e.kd = 6 then setR x i.b.toNat 2
 else if e.kd = 7 then setR x i.b.toNat 3
 else if e.kd = 8 ∨ e.kd = 9 then setR x i.a.toNat e.vl
 else if e.kd = 10 then setR (setR x i.a.toNat e.vl) i.b.toNat 0
 else if e.kd = 11 then setR x i.b.toNat 1
 else x
set_option maxHeartbeats 4000000 in
set_option maxRecDepth 100000 in
theorem fin2 (i : In) (x : Th) (e : Ev) (v : Nat) (v0 : Value) (g : Nat) (w : World) (h : Lies w g 73 (thC x v0)) (h0 : 0 ≤ x.at_) (h256 : x.at_ ≤ 256) (hb : 0 ≤ i.b ∧ i.b ≤ 7) (hk : e.kd = 2) :
  Calls Tryz.prog 111 #[.agg (inC i), .pointer (some ⟨g, 0, none⟩), .agg (evC e), .int .u64 (v : Int)] w (PlPost g (endT (regT i x e v)) v0 w) := by
 obtain ⟨bn, hbn⟩ : ∃ n : Nat, i.b = n := ⟨i.b.toNat, by omega⟩
 have hb8 : bn < 8 := by omega
 have HR : Hid (regT i x e v = setR x bn 0) := by show _ = _; unfold regT; rw [if_pos hk, hbn, Int.toNat_natCast]
 obtain ⟨iop, ia, ib, ic, id, ik⟩ := i
 have hbn : ib = bn := hbn
 subst hbn
 obtain ⟨eth, ekd, erg, etk, evl⟩ := e
 have hk : ekd = 2 := hk
 subst hk
 have hbw : Below w.heap.size w ((w.alloc (.cells (inC ⟨iop, ia, bn, ic, id, ik⟩) 122)).alloc (.cells (evC ⟨eth, 2, erg, etk, evl⟩) 43)) := ((Below.refl _ _).alloc (Nat.le_refl _) _).alloc (by simp) _
 have lg := h.below hbw h.lt
 have l0 := (Lies.made w 122 (inC ⟨iop, ia, bn, ic, id, ik⟩)).alloc (.cells (evC ⟨eth, 2, erg, etk, evl⟩) 43)
 have HBK := Lib.hid ((Kept.of_below hbw).mono (T := oneRow g) (fun _ _ (e : False) => e.elim))
 have HG := Lib.hid lg
 have HL := Lib.hid l0
 have hwa : IntKind.i64.wrap (x.at_ + 1) = x.at_ + 1 := IntWalk.i64_in _ (by omega)
 clear hbw lg l0 h
 go_enter Tryz.func111, Tryz.ntmps111
 go_upto_region 3 with (fail)
 generalize (w.alloc (.cells (inC ⟨iop, ia, bn, ic, id, ik⟩) 122)).alloc (.cells (evC ⟨eth, 2, erg, etk, evl⟩) 43) = w1 at *
 have d2 := (HL.out.cell 2).trans (show _ = some (Value.int .i64 (bn : Int)) from rfl)
 have dl := HL.out.lt
 have rb := (HG.out.cell (5 + bn)).trans (thC_reg x v0 hb8)
 have rl := HG.out.lt
 have rf := HG.out.free (5 + bn)
 go_region
 have HG2 := Lib.hid (show Lies (w1.setCell ⟨g, 5 + bn, none⟩ (.int .u64 0)).drew g 73 (thC (setR x bn 0) v0) from by have := (HG.out.put (5 + bn) (.int .u64 ((0 : Nat) : Int))).drew; rwa [thC_set x v0 hb8] at this)
 have HK2 := Lib.hid ((HBK.out.trans (Kept.put w1 g (5 + bn) (.int .u64 0)) (fun _ _ e => e)).trans (Kept.drew noRow _) (fun _ _ h => h.elim))
 clear rb rl rf d2 dl HG HL HBK
 generalize (w1.setCell ⟨g, 5 + bn, none⟩ (.int .u64 0)).drew = w2 at *
 have s0 := (HG2.out.cell 0).trans (show _ = some (Value.int .i64 x.at_) from rfl)
 have s1 := (HG2.out.cell 1).trans (show _ = some (Value.int .i64 x.ph) from rfl)
 have s2 := (HG2.out.cell 2).trans (show _ = some (Value.int .i64 x.rg) from rfl)
 have s4 := (HG2.out.cell 4).trans (show _ = some (Value.int .u64 (x.tk : Int)) from rfl)
 have sl := HG2.out.lt
 have f0 := HG2.out.free 0
 have f1 := HG2.out.free 1
 have f2 := HG2.out.free 2
 have f4 := HG2.out.free 4
 have HG4 := Lib.hid (show Lies ((((w2.setCell ⟨g, 0, none⟩ (.int .i64 (x.at_ + 1))).setCell ⟨g, 1, none⟩ (.int .i64 0)).setCell ⟨g, 2, none⟩ (.int .i64 0)).setCell ⟨g, 4, none⟩ (.int .u64 0)) g 73 (thC (endT ((setR x bn 0))) v0) from (((HG2.out.put 0 (.int .i64 (x.at_ + 1))).put 1 (.int .i64 0)).put 2 (.int .i64 0)).put 4 (.int .u64 0))
 have HK4 := Lib.hid ((((HK2.out.trans (Kept.put w2 g 0 (.int .i64 (x.at_ + 1))) (fun _ _ e => e)).trans (Kept.put _ g 1 (.int .i64 0)) (fun _ _ e => e)).trans (Kept.put _ g 2 (.int .i64 0)) (fun _ _ e => e)).trans (Kept.put _ g 4 (.int .u64 0)) (fun _ _ e => e))
 clear HG2 HK2
 go_wp2
 go_end0
 refine ⟨rfl, ?_, HK4.out⟩
 rw [HR.out]
 exact HG4.out
set_option maxHeartbeats 4000000 in
set_option maxRecDepth 100000 in
theorem fin5 (i : In) (x : Th) (e : Ev) (v : Nat) (v0 : Value) (g : Nat) (w : World) (h : Lies w g 73 (thC x v0)) (h0 : 0 ≤ x.at_) (h256 : x.at_ ≤ 256) (hb : 0 ≤ i.b ∧ i.b ≤ 7) (hk : e.kd = 5) :
  Calls Tryz.prog 111 #[.agg (inC i), .pointer (some ⟨g, 0, none⟩), .agg (evC e), .int .u64 (v : Int)] w (PlPost g (endT (regT i x e v)) v0 w) := by
 obtain ⟨bn, hbn⟩ : ∃ n : Nat, i.b = n := ⟨i.b.toNat, by omega⟩
 have hb8 : bn < 8 := by omega
 have HR : Hid (regT i x e v = setR x bn 1) := by show _ = _; unfold regT; simp [hk, hbn]
 obtain ⟨iop, ia, ib, ic, id, ik⟩ := i
 have hbn : ib = bn := hbn
 subst hbn
 obtain ⟨eth, ekd, erg, etk, evl⟩ := e
 have hk : ekd = 5 := hk
 subst hk
 have hbw : Below w.heap.size w ((w.alloc (.cells (inC ⟨iop, ia, bn, ic, id, ik⟩) 122)).alloc (.cells (evC ⟨eth, 5, erg, etk, evl⟩) 43)) := ((Below.refl _ _).alloc (Nat.le_refl _) _).alloc (by simp) _
 have lg := h.below hbw h.lt
 have l0 := (Lies.made w 122 (inC ⟨iop, ia, bn, ic, id, ik⟩)).alloc (.cells (evC ⟨eth, 5, erg, etk, evl⟩) 43)
 have HBK := Lib.hid ((Kept.of_below hbw).mono (T := oneRow g) (fun _ _ (e : False) => e.elim))
 have HG := Lib.hid lg
 have HL := Lib.hid l0
 have hwa : IntKind.i64.wrap (x.at_ + 1) = x.at_ + 1 := IntWalk.i64_in _ (by omega)
 clear hbw lg l0 h
 go_enter Tryz.func111, Tryz.ntmps111
 go_upto_region 8 with (fail)
 generalize (w.alloc (.cells (inC ⟨iop, ia, bn, ic, id, ik⟩) 122)).alloc (.cells (evC ⟨eth, 5, erg, etk, evl⟩) 43) = w1 at *
 have d2 := (HL.out.cell 2).trans (show _ = some (Value.int .i64 (bn : Int)) from rfl)
 have dl := HL.out.lt
 have rb := (HG.out.cell (5 + bn)).trans (thC_reg x v0 hb8)
 have rl := HG.out.lt
 have rf := HG.out.free (5 + bn)
 go_region
 have HG2 := Lib.hid (show Lies (w1.setCell ⟨g, 5 + bn, none⟩ (.int .u64 1)).drew g 73 (thC (setR x bn 1) v0) from by have := (HG.out.put (5 + bn) (.int .u64 ((1 : Nat) : Int))).drew; rwa [thC_set x v0 hb8] at this)
 have HK2 := Lib.hid ((HBK.out.trans (Kept.put w1 g (5 + bn) (.int .u64 1)) (fun _ _ e => e)).trans (Kept.drew noRow _) (fun _ _ h => h.elim))
 clear rb rl rf d2 dl HG HL HBK
 generalize (w1.setCell ⟨g, 5 + bn, none⟩ (.int .u64 1)).drew = w2 at *
 have s0 := (HG2.out.cell 0).trans (show _ = some (Value.int .i64 x.at_) from rfl)
 have s1 := (HG2.out.cell 1).trans (show _ = some (Value.int .i64 x.ph) from rfl)
 have s2 := (HG2.out.cell 2).trans (show _ = some (Value.int .i64 x.rg) from rfl)
 have s4 := (HG2.out.cell 4).trans (show _ = some (Value.int .u64 (x.tk : Int)) from rfl)
 have sl := HG2.out.lt
 have f0 := HG2.out.free 0
 have f1 := HG2.out.free 1
 have f2 := HG2.out.free 2
 have f4 := HG2.out.free 4
 have HG4 := Lib.hid (show Lies ((((w2.setCell ⟨g, 0, none⟩ (.int .i64 (x.at_ + 1))).setCell ⟨g, 1, none⟩ (.int .i64 0)).setCell ⟨g, 2, none⟩ (.int .i64 0)).setCell ⟨g, 4, none⟩ (.int .u64 0)) g 73 (thC (endT ((setR x bn 1))) v0) from (((HG2.out.put 0 (.int .i64 (x.at_ + 1))).put 1 (.int .i64 0)).put 2 (.int .i64 0)).put 4 (.int .u64 0))
 have HK4 := Lib.hid ((((HK2.out.trans (Kept.put w2 g 0 (.int .i64 (x.at_ + 1))) (fun _ _ e => e)).trans (Kept.put _ g 1 (.int .i64 0)) (fun _ _ e => e)).trans (Kept.put _ g 2 (.int .i64 0)) (fun _ _ e => e)).trans (Kept.put _ g 4 (.int .u64 0)) (fun _ _ e => e))
 clear HG2 HK2
 go_wp2
 go_end0
 refine ⟨rfl, ?_, HK4.out⟩
 rw [HR.out]
 exact HG4.out
set_option maxHeartbeats 4000000 in
set_option maxRecDepth 100000 in
theorem fin6 (i : In) (x : Th) (e : Ev) (v : Nat) (v0 : Value) (g : Nat) (w : World) (h : Lies w g 73 (thC x v0)) (h0 : 0 ≤ x.at_) (h256 : x.at_ ≤ 256) (hb : 0 ≤ i.b ∧ i.b ≤ 7) (hk : e.kd = 6) :
  Calls Tryz.prog 111 #[.agg (inC i), .pointer (some ⟨g, 0, none⟩), .agg (evC e), .int .u64 (v : Int)] w (PlPost g (endT (regT i x e v)) v0 w) := by
 obtain ⟨bn, hbn⟩ : ∃ n : Nat, i.b = n := ⟨i.b.toNat, by omega⟩
 have hb8 : bn < 8 := by omega
 have HR : Hid (regT i x e v = setR x bn 2) := by show _ = _; unfold regT; simp [hk, hbn]
 obtain ⟨iop, ia, ib, ic, id, ik⟩ := i
 have hbn : ib = bn := hbn
 subst hbn
 obtain ⟨eth, ekd, erg, etk, evl⟩ := e
 have hk : ekd = 6 := hk
 subst hk
 have hbw : Below w.heap.size w ((w.alloc (.cells (inC ⟨iop, ia, bn, ic, id, ik⟩) 122)).alloc (.cells (evC ⟨eth, 6, erg, etk, evl⟩) 43)) := ((Below.refl _ _).alloc (Nat.le_refl _) _).alloc (by simp) _
 have lg := h.below hbw h.lt
 have l0 := (Lies.made w 122 (inC ⟨iop, ia, bn, ic, id, ik⟩)).alloc (.cells (evC ⟨eth, 6, erg, etk, evl⟩) 43)
 have HBK := Lib.hid ((Kept.of_below hbw).mono (T := oneRow g) (fun _ _ (e : False) => e.elim))
 have HG := Lib.hid lg
 have HL := Lib.hid l0
 have hwa : IntKind.i64.wrap (x.at_ + 1) = x.at_ + 1 := IntWalk.i64_in _ (by omega)
 clear hbw lg l0 h
 go_enter Tryz.func111, Tryz.ntmps111
 go_upto_region 10 with (fail)
 generalize (w.alloc (.cells (inC ⟨iop, ia, bn, ic, id, ik⟩) 122)).alloc (.cells (evC ⟨eth, 6, erg, etk, evl⟩) 43) = w1 at *
 have d2 := (HL.out.cell 2).trans (show _ = some (Value.int .i64 (bn : Int)) from rfl)
 have dl := HL.out.lt
 have rb := (HG.out.cell (5 + bn)).trans (thC_reg x v0 hb8)
 have rl := HG.out.lt
 have rf := HG.out.free (5 + bn)
 go_region
 have HG2 := Lib.hid (show Lies (w1.setCell ⟨g, 5 + bn, none⟩ (.int .u64 2)).drew g 73 (thC (setR x bn 2) v0) from by have := (HG.out.put (5 + bn) (.int .u64 ((2 : Nat) : Int))).drew; rwa [thC_set x v0 hb8] at this)
 have HK2 := Lib.hid ((HBK.out.trans (Kept.put w1 g (5 + bn) (.int .u64 2)) (fun _ _ e => e)).trans (Kept.drew noRow _) (fun _ _ h => h.elim))
 clear rb rl rf d2 dl HG HL HBK
 generalize (w1.setCell ⟨g, 5 + bn, none⟩ (.int .u64 2)).drew = w2 at *
 have s0 := (HG2.out.cell 0).trans (show _ = some (Value.int .i64 x.at_) from rfl)
 have s1 := (HG2.out.cell 1).trans (show _ = some (Value.int .i64 x.ph) from rfl)
 have s2 := (HG2.out.cell 2).trans (show _ = some (Value.int .i64 x.rg) from rfl)
 have s4 := (HG2.out.cell 4).trans (show _ = some (Value.int .u64 (x.tk : Int)) from rfl)
 have sl := HG2.out.lt
 have f0 := HG2.out.free 0
 have f1 := HG2.out.free 1
 have f2 := HG2.out.free 2
 have f4 := HG2.out.free 4
 have HG4 := Lib.hid (show Lies ((((w2.setCell ⟨g, 0, none⟩ (.int .i64 (x.at_ + 1))).setCell ⟨g, 1, none⟩ (.int .i64 0)).setCell ⟨g, 2, none⟩ (.int .i64 0)).setCell ⟨g, 4, none⟩ (.int .u64 0)) g 73 (thC (endT ((setR x bn 2))) v0) from (((HG2.out.put 0 (.int .i64 (x.at_ + 1))).put 1 (.int .i64 0)).put 2 (.int .i64 0)).put 4 (.int .u64 0))
 have HK4 := Lib.hid ((((HK2.out.trans (Kept.put w2 g 0 (.int .i64 (x.at_ + 1))) (fun _ _ e => e)).trans (Kept.put _ g 1 (.int .i64 0)) (fun _ _ e => e)).trans (Kept.put _ g 2 (.int .i64 0)) (fun _ _ e => e)).trans (Kept.put _ g 4 (.int .u64 0)) (fun _ _ e => e))
 clear HG2 HK2
 go_wp2
 go_end0
 refine ⟨rfl, ?_, HK4.out⟩
 rw [HR.out]
 exact HG4.out
set_option maxHeartbeats 4000000 in
set_option maxRecDepth 100000 in
theorem fin7 (i : In) (x : Th) (e : Ev) (v : Nat) (v0 : Value) (g : Nat) (w : World) (h : Lies w g 73 (thC x v0)) (h0 : 0 ≤ x.at_) (h256 : x.at_ ≤ 256) (hb : 0 ≤ i.b ∧ i.b ≤ 7) (hk : e.kd = 7) :
  Calls Tryz.prog 111 #[.agg (inC i), .pointer (some ⟨g, 0, none⟩), .agg (evC e), .int .u64 (v : Int)] w (PlPost g (endT (regT i x e v)) v0 w) := by
 obtain ⟨bn, hbn⟩ : ∃ n : Nat, i.b = n := ⟨i.b.toNat, by omega⟩
 have hb8 : bn < 8 := by omega
 have HR : Hid (regT i x e v = setR x bn 3) := by show _ = _; unfold regT; simp [hk, hbn]
 obtain ⟨iop, ia, ib, ic, id, ik⟩ := i
 have hbn : ib = bn := hbn
 subst hbn
 obtain ⟨eth, ekd, erg, etk, evl⟩ := e
 have hk : ekd = 7 := hk
 subst hk
 have hbw : Below w.heap.size w ((w.alloc (.cells (inC ⟨iop, ia, bn, ic, id, ik⟩) 122)).alloc (.cells (evC ⟨eth, 7, erg, etk, evl⟩) 43)) := ((Below.refl _ _).alloc (Nat.le_refl _) _).alloc (by simp) _
 have lg := h.below hbw h.lt
 have l0 := (Lies.made w 122 (inC ⟨iop, ia, bn, ic, id, ik⟩)).alloc (.cells (evC ⟨eth, 7, erg, etk, evl⟩) 43)
 have HBK := Lib.hid ((Kept.of_below hbw).mono (T := oneRow g) (fun _ _ (e : False) => e.elim))
 have HG := Lib.hid lg
 have HL := Lib.hid l0
 have hwa : IntKind.i64.wrap (x.at_ + 1) = x.at_ + 1 := IntWalk.i64_in _ (by omega)
 clear hbw lg l0 h
 go_enter Tryz.func111, Tryz.ntmps111
 go_upto_region 12 with (fail)
 generalize (w.alloc (.cells (inC ⟨iop, ia, bn, ic, id, ik⟩) 122)).alloc (.cells (evC ⟨eth, 7, erg, etk, evl⟩) 43) = w1 at *
 have d2 := (HL.out.cell 2).trans (show _ = some (Value.int .i64 (bn : Int)) from rfl)
 have dl := HL.out.lt
 have rb := (HG.out.cell (5 + bn)).trans (thC_reg x v0 hb8)
 have rl := HG.out.lt
 have rf := HG.out.free (5 + bn)
 go_region
 have HG2 := Lib.hid (show Lies (w1.setCell ⟨g, 5 + bn, none⟩ (.int .u64 3)).drew g 73 (thC (setR x bn 3) v0) from by have := (HG.out.put (5 + bn) (.int .u64 ((3 : Nat) : Int))).drew; rwa [thC_set x v0 hb8] at this)
 have HK2 := Lib.hid ((HBK.out.trans (Kept.put w1 g (5 + bn) (.int .u64 3)) (fun _ _ e => e)).trans (Kept.drew noRow _) (fun _ _ h => h.elim))
 clear rb rl rf d2 dl HG HL HBK
 generalize (w1.setCell ⟨g, 5 + bn, none⟩ (.int .u64 3)).drew = w2 at *
 have s0 := (HG2.out.cell 0).trans (show _ = some (Value.int .i64 x.at_) from rfl)
 have s1 := (HG2.out.cell 1).trans (show _ = some (Value.int .i64 x.ph) from rfl)
 have s2 := (HG2.out.cell 2).trans (show _ = some (Value.int .i64 x.rg) from rfl)
 have s4 := (HG2.out.cell 4).trans (show _ = some (Value.int .u64 (x.tk : Int)) from rfl)
 have sl := HG2.out.lt
 have f0 := HG2.out.free 0
 have f1 := HG2.out.free 1
 have f2 := HG2.out.free 2
 have f4 := HG2.out.free 4
 have HG4 := Lib.hid (show Lies ((((w2.setCell ⟨g, 0, none⟩ (.int .i64 (x.at_ + 1))).setCell ⟨g, 1, none⟩ (.int .i64 0)).setCell ⟨g, 2, none⟩ (.int .i64 0)).setCell ⟨g, 4, none⟩ (.int .u64 0)) g 73 (thC (endT ((setR x bn 3))) v0) from (((HG2.out.put 0 (.int .i64 (x.at_ + 1))).put 1 (.int .i64 0)).put 2 (.int .i64 0)).put 4 (.int .u64 0))
 have HK4 := Lib.hid ((((HK2.out.trans (Kept.put w2 g 0 (.int .i64 (x.at_ + 1))) (fun _ _ e => e)).trans (Kept.put _ g 1 (.int .i64 0)) (fun _ _ e => e)).trans (Kept.put _ g 2 (.int .i64 0)) (fun _ _ e => e)).trans (Kept.put _ g 4 (.int .u64 0)) (fun _ _ e => e))
 clear HG2 HK2
 go_wp2
 go_end0
 refine ⟨rfl, ?_, HK4.out⟩
 rw [HR.out]
 exact HG4.out
set_option maxHeartbeats 4000000 in
set_option maxRecDepth 100000 in
theorem fin11 (i : In) (x : Th) (e : Ev) (v : Nat) (v0 : Value) (g : Nat) (w : World) (h : Lies w g 73 (thC x v0)) (h0 : 0 ≤ x.at_) (h256 : x.at_ ≤ 256) (hb : 0 ≤ i.b ∧ i.b ≤ 7) (hk : e.kd = 11) :
  Calls Tryz.prog 111 #[.agg (inC i), .pointer (some ⟨g, 0, none⟩), .agg (evC e), .int .u64 (v : Int)] w (PlPost g (endT (regT i x e v)) v0 w) := by
 obtain ⟨bn, hbn⟩ : ∃ n : Nat, i.b = n := ⟨i.b.toNat, by omega⟩
 have hb8 : bn < 8 := by omega
 have HR : Hid (regT i x e v = setR x bn 1) := by show _ = _; unfold regT; simp [hk, hbn]
 obtain ⟨iop, ia, ib, ic, id, ik⟩ := i
 have hbn : ib = bn := hbn
 subst hbn
 obtain ⟨eth, ekd, erg, etk, evl⟩ := e
 have hk : ekd = 11 := hk
 subst hk
 have hbw : Below w.heap.size w ((w.alloc (.cells (inC ⟨iop, ia, bn, ic, id, ik⟩) 122)).alloc (.cells (evC ⟨eth, 11, erg, etk, evl⟩) 43)) := ((Below.refl _ _).alloc (Nat.le_refl _) _).alloc (by simp) _
 have lg := h.below hbw h.lt
 have l0 := (Lies.made w 122 (inC ⟨iop, ia, bn, ic, id, ik⟩)).alloc (.cells (evC ⟨eth, 11, erg, etk, evl⟩) 43)
 have HBK := Lib.hid ((Kept.of_below hbw).mono (T := oneRow g) (fun _ _ (e : False) => e.elim))
 have HG := Lib.hid lg
 have HL := Lib.hid l0
 have hwa : IntKind.i64.wrap (x.at_ + 1) = x.at_ + 1 := IntWalk.i64_in _ (by omega)
 clear hbw lg l0 h
 go_enter Tryz.func111, Tryz.ntmps111
 go_upto_region 20 with (fail)
 generalize (w.alloc (.cells (inC ⟨iop, ia, bn, ic, id, ik⟩) 122)).alloc (.cells (evC ⟨eth, 11, erg, etk, evl⟩) 43) = w1 at *
 have d2 := (HL.out.cell 2).trans (show _ = some (Value.int .i64 (bn : Int)) from rfl)
 have dl := HL.out.lt
 have rb := (HG.out.cell (5 + bn)).trans (thC_reg x v0 hb8)
 have rl := HG.out.lt
 have rf := HG.out.free (5 + bn)
 go_region
 have HG2 := Lib.hid (show Lies (w1.setCell ⟨g, 5 + bn, none⟩ (.int .u64 1)).drew g 73 (thC (setR x bn 1) v0) from by have := (HG.out.put (5 + bn) (.int .u64 ((1 : Nat) : Int))).drew; rwa [thC_set x v0 hb8] at this)
 have HK2 := Lib.hid ((HBK.out.trans (Kept.put w1 g (5 + bn) (.int .u64 1)) (fun _ _ e => e)).trans (Kept.drew noRow _) (fun _ _ h => h.elim))
 clear rb rl rf d2 dl HG HL HBK
 generalize (w1.setCell ⟨g, 5 + bn, none⟩ (.int .u64 1)).drew = w2 at *
 have s0 := (HG2.out.cell 0).trans (show _ = some (Value.int .i64 x.at_) from rfl)
 have s1 := (HG2.out.cell 1).trans (show _ = some (Value.int .i64 x.ph) from rfl)
 have s2 := (HG2.out.cell 2).trans (show _ = some (Value.int .i64 x.rg) from rfl)
 have s4 := (HG2.out.cell 4).trans (show _ = some (Value.int .u64 (x.tk : Int)) from rfl)
 have sl := HG2.out.lt
 have f0 := HG2.out.free 0
 have f1 := HG2.out.free 1
 have f2 := HG2.out.free 2
 have f4 := HG2.out.free 4
 have HG4 := Lib.hid (show Lies ((((w2.setCell ⟨g, 0, none⟩ (.int .i64 (x.at_ + 1))).setCell ⟨g, 1, none⟩ (.int .i64 0)).setCell ⟨g, 2, none⟩ (.int .i64 0)).setCell ⟨g, 4, none⟩ (.int .u64 0)) g 73 (thC (endT ((setR x bn 1))) v0) from (((HG2.out.put 0 (.int .i64 (x.at_ + 1))).put 1 (.int .i64 0)).put 2 (.int .i64 0)).put 4 (.int .u64 0))
 have HK4 := Lib.hid ((((HK2.out.trans (Kept.put w2 g 0 (.int .i64 (x.at_ + 1))) (fun _ _ e => e)).trans (Kept.put _ g 1 (.int .i64 0)) (fun _ _ e => e)).trans (Kept.put _ g 2 (.int .i64 0)) (fun _ _ e => e)).trans (Kept.put _ g 4 (.int .u64 0)) (fun _ _ e => e))
 clear HG2 HK2
 go_wp2
 go_end0
 refine ⟨rfl, ?_, HK4.out⟩
 rw [HR.out]
 exact HG4.out
set_option maxHeartbeats 4000000 in
set_option maxRecDepth 100000 in
theorem fin8 (i : In) (x : Th) (e : Ev) (v : Nat) (v0 : Value) (g : Nat) (w : World) (h : Lies w g 73 (thC x v0)) (h0 : 0 ≤ x.at_) (h256 : x.at_ ≤ 256) (hb : 0 ≤ i.a ∧ i.a ≤ 7) (hk : e.kd = 8) :
  Calls Tryz.prog 111 #[.agg (inC i), .pointer (some ⟨g, 0, none⟩), .agg (evC e), .int .u64 (v : Int)] w (PlPost g (endT (regT i x e v)) v0 w) := by
 obtain ⟨bn, hbn⟩ : ∃ n : Nat, i.a = n := ⟨i.a.toNat, by omega⟩
 have hb8 : bn < 8 := by omega
 have HR : Hid (regT i x e v = setR x bn e.vl) := by show _ = _; unfold regT; simp [hk, hbn]
 obtain ⟨iop, ia, ib, ic, id, ik⟩ := i
 have hbn : ia = bn := hbn
 subst hbn
 obtain ⟨eth, ekd, erg, etk, evl⟩ := e
 have hk : ekd = 8 := hk
 subst hk
 have hbw : Below w.heap.size w ((w.alloc (.cells (inC ⟨iop, bn, ib, ic, id, ik⟩) 122)).alloc (.cells (evC ⟨eth, 8, erg, etk, evl⟩) 43)) := ((Below.refl _ _).alloc (Nat.le_refl _) _).alloc (by simp) _
 have lg := h.below hbw h.lt
 have l0 := (Lies.made w 122 (inC ⟨iop, bn, ib, ic, id, ik⟩)).alloc (.cells (evC ⟨eth, 8, erg, etk, evl⟩) 43)
 have HBK := Lib.hid ((Kept.of_below hbw).mono (T := oneRow g) (fun _ _ (e : False) => e.elim))
 have HG := Lib.hid lg
 have HL := Lib.hid l0
 have le := Lies.made (w.alloc (.cells (inC ⟨iop, bn, ib, ic, id, ik⟩) 122)) 43 (evC ⟨eth, 8, erg, etk, evl⟩)
 rw [show (w.alloc (.cells (inC ⟨iop, bn, ib, ic, id, ik⟩) 122)).heap.size = w.heap.size + 1 by simp] at le
 have HLE := Lib.hid le
 have hwa : IntKind.i64.wrap (x.at_ + 1) = x.at_ + 1 := IntWalk.i64_in _ (by omega)
 clear hbw lg l0 h le
 go_enter Tryz.func111, Tryz.ntmps111
 go_upto_region 15 with (fail)
 generalize (w.alloc (.cells (inC ⟨iop, bn, ib, ic, id, ik⟩) 122)).alloc (.cells (evC ⟨eth, 8, erg, etk, evl⟩) 43) = w1 at *
 have d2 := (HL.out.cell 1).trans (show _ = some (Value.int .i64 (bn : Int)) from rfl)
 have dl := HL.out.lt
 have d4 := (HLE.out.cell 4).trans (show _ = some (Value.int .u64 (evl : Int)) from rfl)
 have el := HLE.out.lt
 have rb := (HG.out.cell (5 + bn)).trans (thC_reg x v0 hb8)
 have rl := HG.out.lt
 have rf := HG.out.free (5 + bn)
 go_region
 have HG2 := Lib.hid (show Lies (w1.setCell ⟨g, 5 + bn, none⟩ (.int .u64 (evl : Int))).drew g 73 (thC (setR x bn evl) v0) from by have := (HG.out.put (5 + bn) (.int .u64 ((evl : Nat) : Int))).drew; rwa [thC_set x v0 hb8] at this)
 have HK2 := Lib.hid ((HBK.out.trans (Kept.put w1 g (5 + bn) (.int .u64 (evl : Int))) (fun _ _ e => e)).trans (Kept.drew noRow _) (fun _ _ h => h.elim))
 clear rb rl rf d2 dl HG HL HBK d4 el HLE
 generalize (w1.setCell ⟨g, 5 + bn, none⟩ (.int .u64 (evl : Int))).drew = w2 at *
 have s0 := (HG2.out.cell 0).trans (show _ = some (Value.int .i64 x.at_) from rfl)
 have s1 := (HG2.out.cell 1).trans (show _ = some (Value.int .i64 x.ph) from rfl)
 have s2 := (HG2.out.cell 2).trans (show _ = some (Value.int .i64 x.rg) from rfl)
 have s4 := (HG2.out.cell 4).trans (show _ = some (Value.int .u64 (x.tk : Int)) from rfl)
 have sl := HG2.out.lt
 have f0 := HG2.out.free 0
 have f1 := HG2.out.free 1
 have f2 := HG2.out.free 2
 have f4 := HG2.out.free 4
 have HG4 := Lib.hid (show Lies ((((w2.setCell ⟨g, 0, none⟩ (.int .i64 (x.at_ + 1))).setCell ⟨g, 1, none⟩ (.int .i64 0)).setCell ⟨g, 2, none⟩ (.int .i64 0)).setCell ⟨g, 4, none⟩ (.int .u64 0)) g 73 (thC (endT ((setR x bn evl))) v0) from (((HG2.out.put 0 (.int .i64 (x.at_ + 1))).put 1 (.int .i64 0)).put 2 (.int .i64 0)).put 4 (.int .u64 0))
 have HK4 := Lib.hid ((((HK2.out.trans (Kept.put w2 g 0 (.int .i64 (x.at_ + 1))) (fun _ _ e => e)).trans (Kept.put _ g 1 (.int .i64 0)) (fun _ _ e => e)).trans (Kept.put _ g 2 (.int .i64 0)) (fun _ _ e => e)).trans (Kept.put _ g 4 (.int .u64 0)) (fun _ _ e => e))
 clear HG2 HK2
 go_wp2
 go_end0
 refine ⟨rfl, ?_, HK4.out⟩
 rw [HR.out]
 exact HG4.out
set_option maxHeartbeats 4000000 in
set_option maxRecDepth 100000 in
theorem fin9 (i : In) (x : Th) (e : Ev) (v : Nat) (v0 : Value) (g : Nat) (w : World) (h : Lies w g 73 (thC x v0)) (h0 : 0 ≤ x.at_) (h256 : x.at_ ≤ 256) (hb : 0 ≤ i.a ∧ i.a ≤ 7) (hk : e.kd = 9) :
  Calls Tryz.prog 111 #[.agg (inC i), .pointer (some ⟨g, 0, none⟩), .agg (evC e), .int .u64 (v : Int)] w (PlPost g (endT (regT i x e v)) v0 w) := by
 obtain ⟨bn, hbn⟩ : ∃ n : Nat, i.a = n := ⟨i.a.toNat, by omega⟩
 have hb8 : bn < 8 := by omega
 have HR : Hid (regT i x e v = setR x bn e.vl) := by show _ = _; unfold regT; simp [hk, hbn]
 obtain ⟨iop, ia, ib, ic, id, ik⟩ := i
 have hbn : ia = bn := hbn
 subst hbn
 obtain ⟨eth, ekd, erg, etk, evl⟩ := e
 have hk : ekd = 9 := hk
 subst hk
 have hbw : Below w.heap.size w ((w.alloc (.cells (inC ⟨iop, bn, ib, ic, id, ik⟩) 122)).alloc (.cells (evC ⟨eth, 9, erg, etk, evl⟩) 43)) := ((Below.refl _ _).alloc (Nat.le_refl _) _).alloc (by simp) _
 have lg := h.below hbw h.lt
 have l0 := (Lies.made w 122 (inC ⟨iop, bn, ib, ic, id, ik⟩)).alloc (.cells (evC ⟨eth, 9, erg, etk, evl⟩) 43)
 have HBK := Lib.hid ((Kept.of_below hbw).mono (T := oneRow g) (fun _ _ (e : False) => e.elim))
 have HG := Lib.hid lg
 have HL := Lib.hid l0
 have le := Lies.made (w.alloc (.cells (inC ⟨iop, bn, ib, ic, id, ik⟩) 122)) 43 (evC ⟨eth, 9, erg, etk, evl⟩)
 rw [show (w.alloc (.cells (inC ⟨iop, bn, ib, ic, id, ik⟩) 122)).heap.size = w.heap.size + 1 by simp] at le
 have HLE := Lib.hid le
 have hwa : IntKind.i64.wrap (x.at_ + 1) = x.at_ + 1 := IntWalk.i64_in _ (by omega)
 clear hbw lg l0 h le
 go_enter Tryz.func111, Tryz.ntmps111
 go_upto_region 15 with (fail)
 generalize (w.alloc (.cells (inC ⟨iop, bn, ib, ic, id, ik⟩) 122)).alloc (.cells (evC ⟨eth, 9, erg, etk, evl⟩) 43) = w1 at *
 have d2 := (HL.out.cell 1).trans (show _ = some (Value.int .i64 (bn : Int)) from rfl)
 have dl := HL.out.lt
 have d4 := (HLE.out.cell 4).trans (show _ = some (Value.int .u64 (evl : Int)) from rfl)
 have el := HLE.out.lt
 have rb := (HG.out.cell (5 + bn)).trans (thC_reg x v0 hb8)
 have rl := HG.out.lt
 have rf := HG.out.free (5 + bn)
 go_region
 have HG2 := Lib.hid (show Lies (w1.setCell ⟨g, 5 + bn, none⟩ (.int .u64 (evl : Int))).drew g 73 (thC (setR x bn evl) v0) from by have := (HG.out.put (5 + bn) (.int .u64 ((evl : Nat) : Int))).drew; rwa [thC_set x v0 hb8] at this)
 have HK2 := Lib.hid ((HBK.out.trans (Kept.put w1 g (5 + bn) (.int .u64 (evl : Int))) (fun _ _ e => e)).trans (Kept.drew noRow _) (fun _ _ h => h.elim))
 clear rb rl rf d2 dl HG HL HBK d4 el HLE
 generalize (w1.setCell ⟨g, 5 + bn, none⟩ (.int .u64 (evl : Int))).drew = w2 at *
 have s0 := (HG2.out.cell 0).trans (show _ = some (Value.int .i64 x.at_) from rfl)
 have s1 := (HG2.out.cell 1).trans (show _ = some (Value.int .i64 x.ph) from rfl)
 have s2 := (HG2.out.cell 2).trans (show _ = some (Value.int .i64 x.rg) from rfl)
 have s4 := (HG2.out.cell 4).trans (show _ = some (Value.int .u64 (x.tk : Int)) from rfl)
 have sl := HG2.out.lt
 have f0 := HG2.out.free 0
 have f1 := HG2.out.free 1
 have f2 := HG2.out.free 2
 have f4 := HG2.out.free 4
 have HG4 := Lib.hid (show Lies ((((w2.setCell ⟨g, 0, none⟩ (.int .i64 (x.at_ + 1))).setCell ⟨g, 1, none⟩ (.int .i64 0)).setCell ⟨g, 2, none⟩ (.int .i64 0)).setCell ⟨g, 4, none⟩ (.int .u64 0)) g 73 (thC (endT ((setR x bn evl))) v0) from (((HG2.out.put 0 (.int .i64 (x.at_ + 1))).put 1 (.int .i64 0)).put 2 (.int .i64 0)).put 4 (.int .u64 0))
 have HK4 := Lib.hid ((((HK2.out.trans (Kept.put w2 g 0 (.int .i64 (x.at_ + 1))) (fun _ _ e => e)).trans (Kept.put _ g 1 (.int .i64 0)) (fun _ _ e => e)).trans (Kept.put _ g 2 (.int .i64 0)) (fun _ _ e => e)).trans (Kept.put _ g 4 (.int .u64 0)) (fun _ _ e => e))
 clear HG2 HK2
 go_wp2
 go_end0
 refine ⟨rfl, ?_, HK4.out⟩
 rw [HR.out]
 exact HG4.out
set_option maxHeartbeats 4000000 in
set_option maxRecDepth 100000 in
theorem fin13 (i : In) (x : Th) (e : Ev) (v : Nat) (v0 : Value) (g : Nat) (w : World) (h : Lies w g 73 (thC x v0)) (h0 : 0 ≤ x.at_) (h256 : x.at_ ≤ 256) (hb : 0 ≤ i.b ∧ i.b ≤ 7) (hk : e.kd = 13) :
  Calls Tryz.prog 111 #[.agg (inC i), .pointer (some ⟨g, 0, none⟩), .agg (evC e), .int .u64 (v : Int)] w (PlPost g (endT (regT i x e v)) v0 w) := by
 obtain ⟨bn, hbn⟩ : ∃ n : Nat, i.b = n := ⟨i.b.toNat, by omega⟩
 have hb8 : bn < 8 := by omega
 have HR : Hid (regT i x e v = x) := by show _ = _; unfold regT; simp [hk]
 obtain ⟨iop, ia, ib, ic, id, ik⟩ := i
 have hbn : ib = bn := hbn
 subst hbn
 obtain ⟨eth, ekd, erg, etk, evl⟩ := e
 have hk : ekd = 13 := hk
 subst hk
 have hbw : Below w.heap.size w ((w.alloc (.cells (inC ⟨iop, ia, bn, ic, id, ik⟩) 122)).alloc (.cells (evC ⟨eth, 13, erg, etk, evl⟩) 43)) := ((Below.refl _ _).alloc (Nat.le_refl _) _).alloc (by simp) _
 have lg := h.below hbw h.lt
 have l0 := (Lies.made w 122 (inC ⟨iop, ia, bn, ic, id, ik⟩)).alloc (.cells (evC ⟨eth, 13, erg, etk, evl⟩) 43)
 have HBK := Lib.hid ((Kept.of_below hbw).mono (T := oneRow g) (fun _ _ (e : False) => e.elim))
 have HG := Lib.hid lg
 have HL := Lib.hid l0
 have hwa : IntKind.i64.wrap (x.at_ + 1) = x.at_ + 1 := IntWalk.i64_in _ (by omega)
 clear hbw lg l0 h
 go_enter Tryz.func111, Tryz.ntmps111
 go_upto_region 23 with (fail)
 generalize (w.alloc (.cells (inC ⟨iop, ia, bn, ic, id, ik⟩) 122)).alloc (.cells (evC ⟨eth, 13, erg, etk, evl⟩) 43) = w1 at *
 have HG2 := HG
 have HK2 := HBK
 clear HG HL HBK
 have s0 := (HG2.out.cell 0).trans (show _ = some (Value.int .i64 x.at_) from rfl)
 have s1 := (HG2.out.cell 1).trans (show _ = some (Value.int .i64 x.ph) from rfl)
 have s2 := (HG2.out.cell 2).trans (show _ = some (Value.int .i64 x.rg) from rfl)
 have s4 := (HG2.out.cell 4).trans (show _ = some (Value.int .u64 (x.tk : Int)) from rfl)
 have sl := HG2.out.lt
 have f0 := HG2.out.free 0
 have f1 := HG2.out.free 1
 have f2 := HG2.out.free 2
 have f4 := HG2.out.free 4
 have HG4 := Lib.hid (show Lies ((((w1.setCell ⟨g, 0, none⟩ (.int .i64 (x.at_ + 1))).setCell ⟨g, 1, none⟩ (.int .i64 0)).setCell ⟨g, 2, none⟩ (.int .i64 0)).setCell ⟨g, 4, none⟩ (.int .u64 0)) g 73 (thC (endT (x)) v0) from (((HG2.out.put 0 (.int .i64 (x.at_ + 1))).put 1 (.int .i64 0)).put 2 (.int .i64 0)).put 4 (.int .u64 0))
 have HK4 := Lib.hid ((((HK2.out.trans (Kept.put w1 g 0 (.int .i64 (x.at_ + 1))) (fun _ _ e => e)).trans (Kept.put _ g 1 (.int .i64 0)) (fun _ _ e => e)).trans (Kept.put _ g 2 (.int .i64 0)) (fun _ _ e => e)).trans (Kept.put _ g 4 (.int .u64 0)) (fun _ _ e => e))
 clear HG2 HK2
 go_wp2
 go_end0
 refine ⟨rfl, ?_, HK4.out⟩
 rw [HR.out]
 exact HG4.out
set_option maxHeartbeats 4000000 in
set_option maxRecDepth 100000 in
theorem fin4 (i : In) (x : Th) (e : Ev) (v : Nat) (v0 : Value) (g : Nat) (w : World) (h : Lies w g 73 (thC x v0)) (h0 : 0 ≤ x.at_) (h256 : x.at_ ≤ 256) (ha : 0 ≤ i.a ∧ i.a ≤ 7) (hb : 0 ≤ i.b ∧ i.b ≤ 7) (hk : e.kd = 4) :
  Calls Tryz.prog 111 #[.agg (inC i), .pointer (some ⟨g, 0, none⟩), .agg (evC e), .int .u64 (v : Int)] w (PlPost g (endT (regT i x e v)) v0 w) := by
 obtain ⟨an, han⟩ : ∃ n : Nat, i.a = n := ⟨i.a.toNat, by omega⟩
 obtain ⟨bn, hbn⟩ : ∃ n : Nat, i.b = n := ⟨i.b.toNat, by omega⟩
 have ha8 : an < 8 := by omega
 have hb8 : bn < 8 := by omega
 have HR : Hid (regT i x e v = setR (setR x an v) bn 0) := by show _ = _; unfold regT; simp [hk, han, hbn]
 obtain ⟨iop, ia, ib, ic, id, ik⟩ := i
 have han : ia = an := han
 subst han
 have hbn : ib = bn := hbn
 subst hbn
 obtain ⟨eth, ekd, erg, etk, evl⟩ := e
 have hk : ekd = 4 := hk
 subst hk
 have hbw : Below w.heap.size w ((w.alloc (.cells (inC ⟨iop, an, bn, ic, id, ik⟩) 122)).alloc (.cells (evC ⟨eth, 4, erg, etk, evl⟩) 43)) := ((Below.refl _ _).alloc (Nat.le_refl _) _).alloc (by simp) _
 have lg := h.below hbw h.lt
 have hgl := h.lt
 have l0 := (Lies.made w 122 (inC ⟨iop, an, bn, ic, id, ik⟩)).alloc (.cells (evC ⟨eth, 4, erg, etk, evl⟩) 43)
 have le := Lies.made (w.alloc (.cells (inC ⟨iop, an, bn, ic, id, ik⟩) 122)) 43 (evC ⟨eth, 4, erg, etk, evl⟩)
 rw [show (w.alloc (.cells (inC ⟨iop, an, bn, ic, id, ik⟩) 122)).heap.size = w.heap.size + 1 by simp] at le
 have HBK := Lib.hid ((Kept.of_below hbw).mono (T := oneRow g) (fun _ _ (e : False) => e.elim))
 have HG := Lib.hid lg
 have HL := Lib.hid l0
 have HLE := Lib.hid le
 have HNE : Hid (w.heap.size ≠ g) := by show _ ≠ _; omega
 have hwa : IntKind.i64.wrap (x.at_ + 1) = x.at_ + 1 := IntWalk.i64_in _ (by omega)
 clear hbw lg l0 h le hgl
 go_enter Tryz.func111, Tryz.ntmps111
 go_upto_region 5 with (fail)
 generalize (w.alloc (.cells (inC ⟨iop, an, bn, ic, id, ik⟩) 122)).alloc (.cells (evC ⟨eth, 4, erg, etk, evl⟩) 43) = w1 at *
 have d1 := (HL.out.cell 1).trans (show _ = some (Value.int .i64 (an : Int)) from rfl)
 have dl := HL.out.lt
 have d4 := (HLE.out.cell 4).trans (show _ = some (Value.int .u64 (evl : Int)) from rfl)
 have el := HLE.out.lt
 have rb := (HG.out.cell (5 + an)).trans (thC_reg x v0 ha8)
 have rl := HG.out.lt
 have rf := HG.out.free (5 + an)
 go_region
 have HG1 := Lib.hid (show Lies (w1.setCell ⟨g, 5 + an, none⟩ (.int .u64 (v : Int))).drew g 73 (thC (setR x an v) v0) from by have := (HG.out.put (5 + an) (.int .u64 (v : Int))).drew; rwa [thC_set x v0 ha8] at this)
 have HK1 := Lib.hid ((HBK.out.trans (Kept.put w1 g (5 + an) (.int .u64 (v : Int))) (fun _ _ e => e)).trans (Kept.drew noRow _) (fun _ _ h => h.elim))
 have HL1 := Lib.hid (HL.out.far (p := ⟨g, 5 + an, none⟩) HNE.out (.int .u64 (v : Int))).drew
 clear rb rl rf d1 dl d4 el HG HL HBK HLE
 generalize (w1.setCell ⟨g, 5 + an, none⟩ (.int .u64 (v : Int))).drew = w2 at *
 go_upto_region 6 with (fail)
 have d2 := (HL1.out.cell 2).trans (show _ = some (Value.int .i64 (bn : Int)) from rfl)
 have dl := HL1.out.lt
 have rb := (HG1.out.cell (5 + bn)).trans (thC_reg (setR x an v) v0 hb8)
 have rl := HG1.out.lt
 have rf := HG1.out.free (5 + bn)
 go_region
 have HG2 := Lib.hid (show Lies (w2.setCell ⟨g, 5 + bn, none⟩ (.int .u64 0)).drew g 73 (thC (setR (setR x an v) bn 0) v0) from by have := (HG1.out.put (5 + bn) (.int .u64 ((0 : Nat) : Int))).drew; rwa [thC_set (setR x an v) v0 hb8] at this)
 have HK2 := Lib.hid ((HK1.out.trans (Kept.put w2 g (5 + bn) (.int .u64 0)) (fun _ _ e => e)).trans (Kept.drew noRow _) (fun _ _ h => h.elim))
 clear rb rl rf d2 dl HG1 HL1 HK1
 generalize (w2.setCell ⟨g, 5 + bn, none⟩ (.int .u64 0)).drew = w3 at *
 have s0 := (HG2.out.cell 0).trans (show _ = some (Value.int .i64 x.at_) from rfl)
 have s1 := (HG2.out.cell 1).trans (show _ = some (Value.int .i64 x.ph) from rfl)
 have s2 := (HG2.out.cell 2).trans (show _ = some (Value.int .i64 x.rg) from rfl)
 have s4 := (HG2.out.cell 4).trans (show _ = some (Value.int .u64 (x.tk : Int)) from rfl)
 have sl := HG2.out.lt
 have f0 := HG2.out.free 0
 have f1 := HG2.out.free 1
 have f2 := HG2.out.free 2
 have f4 := HG2.out.free 4
 have HG4 := Lib.hid (show Lies ((((w3.setCell ⟨g, 0, none⟩ (.int .i64 (x.at_ + 1))).setCell ⟨g, 1, none⟩ (.int .i64 0)).setCell ⟨g, 2, none⟩ (.int .i64 0)).setCell ⟨g, 4, none⟩ (.int .u64 0)) g 73 (thC (endT ((setR (setR x an v) bn 0))) v0) from (((HG2.out.put 0 (.int .i64 (x.at_ + 1))).put 1 (.int .i64 0)).put 2 (.int .i64 0)).put 4 (.int .u64 0))
 have HK4 := Lib.hid ((((HK2.out.trans (Kept.put w3 g 0 (.int .i64 (x.at_ + 1))) (fun _ _ e => e)).trans (Kept.put _ g 1 (.int .i64 0)) (fun _ _ e => e)).trans (Kept.put _ g 2 (.int .i64 0)) (fun _ _ e => e)).trans (Kept.put _ g 4 (.int .u64 0)) (fun _ _ e => e))
 clear HG2 HK2
 go_wp2
 go_end0
 refine ⟨rfl, ?_, HK4.out⟩
 rw [HR.out]
 exact HG4.out
set_option maxHeartbeats 4000000 in
set_option maxRecDepth 100000 in
theorem fin10 (i : In) (x : Th) (e : Ev) (v : Nat) (v0 : Value) (g : Nat) (w : World) (h : Lies w g 73 (thC x v0)) (h0 : 0 ≤ x.at_) (h256 : x.at_ ≤ 256) (ha : 0 ≤ i.a ∧ i.a ≤ 7) (hb : 0 ≤ i.b ∧ i.b ≤ 7) (hk : e.kd = 10) :
  Calls Tryz.prog 111 #[.agg (inC i), .pointer (some ⟨g, 0, none⟩), .agg (evC e), .int .u64 (v : Int)] w (PlPost g (endT (regT i x e v)) v0 w) := by
 obtain ⟨an, han⟩ : ∃ n : Nat, i.a = n := ⟨i.a.toNat, by omega⟩
 obtain ⟨bn, hbn⟩ : ∃ n : Nat, i.b = n := ⟨i.b.toNat, by omega⟩
 have ha8 : an < 8 := by omega
 have hb8 : bn < 8 := by omega
 have HR : Hid (regT i x e v = setR (setR x an e.vl) bn 0) := by show _ = _; unfold regT; simp [hk, han, hbn]
 obtain ⟨iop, ia, ib, ic, id, ik⟩ := i
 have han : ia = an := han
 subst han
 have hbn : ib = bn := hbn
 subst hbn
 obtain ⟨eth, ekd, erg, etk, evl⟩ := e
 have hk : ekd = 10 := hk
 subst hk
 have hbw : Below w.heap.size w ((w.alloc (.cells (inC ⟨iop, an, bn, ic, id, ik⟩) 122)).alloc (.cells (evC ⟨eth, 10, erg, etk, evl⟩) 43)) := ((Below.refl _ _).alloc (Nat.le_refl _) _).alloc (by simp) _
 have lg := h.below hbw h.lt
 have hgl := h.lt
 have l0 := (Lies.made w 122 (inC ⟨iop, an, bn, ic, id, ik⟩)).alloc (.cells (evC ⟨eth, 10, erg, etk, evl⟩) 43)
 have le := Lies.made (w.alloc (.cells (inC ⟨iop, an, bn, ic, id, ik⟩) 122)) 43 (evC ⟨eth, 10, erg, etk, evl⟩)
 rw [show (w.alloc (.cells (inC ⟨iop, an, bn, ic, id, ik⟩) 122)).heap.size = w.heap.size + 1 by simp] at le
 have HBK := Lib.hid ((Kept.of_below hbw).mono (T := oneRow g) (fun _ _ (e : False) => e.elim))
 have HG := Lib.hid lg
 have HL := Lib.hid l0
 have HLE := Lib.hid le
 have HNE : Hid (w.heap.size ≠ g) := by show _ ≠ _; omega
 have hwa : IntKind.i64.wrap (x.at_ + 1) = x.at_ + 1 := IntWalk.i64_in _ (by omega)
 clear hbw lg l0 h le hgl
 go_enter Tryz.func111, Tryz.ntmps111
 go_upto_region 17 with (fail)
 generalize (w.alloc (.cells (inC ⟨iop, an, bn, ic, id, ik⟩) 122)).alloc (.cells (evC ⟨eth, 10, erg, etk, evl⟩) 43) = w1 at *
 have d1 := (HL.out.cell 1).trans (show _ = some (Value.int .i64 (an : Int)) from rfl)
 have dl := HL.out.lt
 have d4 := (HLE.out.cell 4).trans (show _ = some (Value.int .u64 (evl : Int)) from rfl)
 have el := HLE.out.lt
 have rb := (HG.out.cell (5 + an)).trans (thC_reg x v0 ha8)
 have rl := HG.out.lt
 have rf := HG.out.free (5 + an)
 go_region
 have HG1 := Lib.hid (show Lies (w1.setCell ⟨g, 5 + an, none⟩ (.int .u64 (evl : Int))).drew g 73 (thC (setR x an evl) v0) from by have := (HG.out.put (5 + an) (.int .u64 (evl : Int))).drew; rwa [thC_set x v0 ha8] at this)
 have HK1 := Lib.hid ((HBK.out.trans (Kept.put w1 g (5 + an) (.int .u64 (evl : Int))) (fun _ _ e => e)).trans (Kept.drew noRow _) (fun _ _ h => h.elim))
 have HL1 := Lib.hid (HL.out.far (p := ⟨g, 5 + an, none⟩) HNE.out (.int .u64 (evl : Int))).drew
 clear rb rl rf d1 dl d4 el HG HL HBK HLE
 generalize (w1.setCell ⟨g, 5 + an, none⟩ (.int .u64 (evl : Int))).drew = w2 at *
 go_upto_region 18 with (fail)
 have d2 := (HL1.out.cell 2).trans (show _ = some (Value.int .i64 (bn : Int)) from rfl)
 have dl := HL1.out.lt
 have rb := (HG1.out.cell (5 + bn)).trans (thC_reg (setR x an evl) v0 hb8)
 have rl := HG1.out.lt
 have rf := HG1.out.free (5 + bn)
 go_region
 have HG2 := Lib.hid (show Lies (w2.setCell ⟨g, 5 + bn, none⟩ (.int .u64 0)).drew g 73 (thC (setR (setR x an evl) bn 0) v0) from by have := (HG1.out.put (5 + bn) (.int .u64 ((0 : Nat) : Int))).drew; rwa [thC_set (setR x an evl) v0 hb8] at this)
 have HK2 := Lib.hid ((HK1.out.trans (Kept.put w2 g (5 + bn) (.int .u64 0)) (fun _ _ e => e)).trans (Kept.drew noRow _) (fun _ _ h => h.elim))
 clear rb rl rf d2 dl HG1 HL1 HK1
 generalize (w2.setCell ⟨g, 5 + bn, none⟩ (.int .u64 0)).drew = w3 at *
 have s0 := (HG2.out.cell 0).trans (show _ = some (Value.int .i64 x.at_) from rfl)
 have s1 := (HG2.out.cell 1).trans (show _ = some (Value.int .i64 x.ph) from rfl)
 have s2 := (HG2.out.cell 2).trans (show _ = some (Value.int .i64 x.rg) from rfl)
 have s4 := (HG2.out.cell 4).trans (show _ = some (Value.int .u64 (x.tk : Int)) from rfl)
 have sl := HG2.out.lt
 have f0 := HG2.out.free 0
 have f1 := HG2.out.free 1
 have f2 := HG2.out.free 2
 have f4 := HG2.out.free 4
 have HG4 := Lib.hid (show Lies ((((w3.setCell ⟨g, 0, none⟩ (.int .i64 (x.at_ + 1))).setCell ⟨g, 1, none⟩ (.int .i64 0)).setCell ⟨g, 2, none⟩ (.int .i64 0)).setCell ⟨g, 4, none⟩ (.int .u64 0)) g 73 (thC (endT ((setR (setR x an evl) bn 0))) v0) from (((HG2.out.put 0 (.int .i64 (x.at_ + 1))).put 1 (.int .i64 0)).put 2 (.int .i64 0)).put 4 (.int .u64 0))
 have HK4 := Lib.hid ((((HK2.out.trans (Kept.put w3 g 0 (.int .i64 (x.at_ + 1))) (fun _ _ e => e)).trans (Kept.put _ g 1 (.int .i64 0)) (fun _ _ e => e)).trans (Kept.put _ g 2 (.int .i64 0)) (fun _ _ e => e)).trans (Kept.put _ g 4 (.int .u64 0)) (fun _ _ e => e))
 clear HG2 HK2
 go_wp2
 go_end0
 refine ⟨rfl, ?_, HK4.out⟩
 rw [HR.out]
 exact HG4.out
theorem finish16 (i : In) (x : Th) (e : Ev) (v : Nat) (v0 : Value) (g : Nat) (w : World) (h : Lies w g 73 (thC x v0)) (h0 : 0 ≤ x.at_) (h256 : x.at_ ≤ 256) (ha : e.kd = 4 ∨ e.kd = 8 ∨ e.kd = 9 ∨ e.kd = 10 → 0 ≤ i.a ∧ i.a ≤ 7) (hb : e.kd ≠ 8 ∧ e.kd ≠ 9 → 0 ≤ i.b ∧ i.b ≤ 7) (hk : e.kd = 2 ∨ (4 ≤ e.kd ∧ e.kd ≤ 11) ∨ e.kd = 13) :
  Calls Tryz.prog 111 #[.agg (inC i), .pointer (some ⟨g, 0, none⟩), .agg (evC e), .int .u64 (v : Int)] w (PlPost g (endT (regT i x e v)) v0 w) := by
 have hc : e.kd = 2 ∨ e.kd = 4 ∨ e.kd = 5 ∨ e.kd = 6 ∨ e.kd = 7 ∨ e.kd = 8 ∨ e.kd = 9 ∨ e.kd = 10 ∨ e.kd = 11 ∨ e.kd = 13 := by omega
 rcases hc with k | k | k | k | k | k | k | k | k | k
 ·exact fin2 i x e v v0 g w h h0 h256 (hb (by omega)) k
 ·exact fin4 i x e v v0 g w h h0 h256 (ha (by omega)) (hb (by omega)) k
 ·exact fin5 i x e v v0 g w h h0 h256 (hb (by omega)) k
 ·exact fin6 i x e v v0 g w h h0 h256 (hb (by omega)) k
 ·exact fin7 i x e v v0 g w h h0 h256 (hb (by omega)) k
 ·exact fin8 i x e v v0 g w h h0 h256 (ha (by omega)) k
 ·exact fin9 i x e v v0 g w h h0 h256 (ha (by omega)) k
 ·exact fin10 i x e v v0 g w h h0 h256 (ha (by omega)) (hb (by omega)) k
 ·exact fin11 i x e v v0 g w h h0 h256 (hb (by omega)) k
 ·exact fin13 i x e v v0 g w h h0 h256 (hb (by omega)) k
def seeT (x : Th) (n : Nat) : Th := { x with sn := x.sn ++ [n] }
set_option maxHeartbeats 8000000 in
set_option maxRecDepth 100000 in
theorem fin12 (i : In) (x : Th) (e : Ev) (v : Nat) (A : Option Addr) (c g B : Nat) (w : World) (h : Lies w g 73 (thC x (.slice A x.sn.length c))) (ho : w.ownsRow B 37 1 (.slice A x.sn.length c) x.sn.length (cells64 x.sn)) (hl : x.sn.length ≤ 1000000) (h0 : 0 ≤ x.at_) (h256 : x.at_ ≤ 256) (hk : e.kd = 12) (hBg : B ≤ g) (hBw : B ≤ w.heap.size) :
  Calls Tryz.prog 111 #[.agg (inC i), .pointer (some ⟨g, 0, none⟩), .agg (evC e), .int .u64 (v : Int)] w fun q w' => q = .returned (.tuple #[]) ∧ ∃ A' c', Lies w' g 73 (thC (endT (seeT x e.vl)) (.slice A' (x.sn.length + 1) c')) ∧ w'.ownsRow B 37 1 (.slice A' (x.sn.length + 1) c') (x.sn.length + 1) (cells64 (x.sn ++ [e.vl])) ∧ Below B w w' ∧ Kept (fun k => k = g ∨ (Value.slice A x.sn.length c).ownBlock = some k) w w' := by
 obtain ⟨i0, hi0, hz0, hz1, hz2⟩ := info_parts Tryz.info64
 obtain ⟨eth, ekd, erg, etk, evl⟩ := e
 have hk : ekd = 12 := hk
 subst hk
 have hbw : Below w.heap.size w ((w.alloc (.cells (inC i) 122)).alloc (.cells (evC ⟨eth, 12, erg, etk, evl⟩) 43)) := ((Below.refl _ _).alloc (Nat.le_refl _) _).alloc (by simp) _
 have lg := h.below hbw h.lt
 have le := Lies.made (w.alloc (.cells (inC i) 122)) 43 (evC ⟨eth, 12, erg, etk, evl⟩)
 rw [show (w.alloc (.cells (inC i) 122)).heap.size = w.heap.size + 1 by simp] at le
 have HO := Lib.hid (owned_below ho hbw)
 have HBW := Lib.hid (hbw.mono hBw)
 have HKW := Lib.hid ((Kept.of_below hbw).mono (T := fun k => k = g ∨ (Value.slice A x.sn.length c).ownBlock = some k) (fun _ _ e => e.elim))
 have HG := Lib.hid lg
 have HLE := Lib.hid le
 have hw1 : w.heap.size ≤ ((w.alloc (.cells (inC i) 122)).alloc (.cells (evC ⟨eth, 12, erg, etk, evl⟩) 43)).heap.size := hbw.size
 have hwa : IntKind.i64.wrap (x.at_ + 1) = x.at_ + 1 := IntWalk.i64_in _ (by omega)
 have hgl := h.lt
 obtain ⟨n, hn⟩ : ∃ n, x.sn.length = n := ⟨_, rfl⟩
 have HN : Hid (cells64 x.sn ++ [.int .u64 (evl : Int)] = cells64 (x.sn ++ [evl])) := by show _ = _; simp [cells64]
 rw [hn] at HG HO hl HKW ⊢
 clear hbw lg h le hn ho
 go_enter Tryz.func111, Tryz.ntmps111
 go_upto_region 22 with (fail)
 generalize (w.alloc (.cells (inC i) 122)).alloc (.cells (evC ⟨eth, 12, erg, etk, evl⟩) 43) = w1 at *
 have d4 := (HLE.out.cell 4).trans (show _ = some (Value.int .u64 (evl : Int)) from rfl)
 have el := HLE.out.lt
 have rb := (HG.out.cell 13).trans (show _ = some (Value.slice A n c) from rfl)
 have rl := HG.out.lt
 have rf := HG.out.free 13
 go_region_law (refine step_append_lies _ rfl (.tmp 98) (.tmp 101) 66 rfl B 37 i0 (.int .u64 0) 1 8 Tryz.underlying66 hi0 hz0 hz1 hz2 rfl (by omega) _ n _ rfl ((show World.ownsRow w1.drew _ _ _ _ _ _ from HO.out).alloc _) ⟨w1.heap.size, 0, none⟩ 1 1 [.int .u64 (evl : Int)] rfl rfl (fun j u hj => by
  match j, hj with
  | 0, hj => simp at hj; subst hj; simp [Addr.add, World.cell?_alloc_at]) (fun u hu => by simp at hu; subst hu; rfl) (by omega) (by unfold maxLen; omega) (by omega) (by simp; omega) (w1.heap.size + 1) (by simp) ?_; intro gh caph w6 ho6 hg6 hgh hg6l; have l6 := ((Lies.drew HG.out).alloc (.cells #[.int .u64 (evl : Int)] 37)).kept (Kept.of_grown hg6) (own_ne HO.out HG.out (by decide)); have e1 := (l6.cell 13).trans (show _ = some (Value.slice A n c) from rfl); have e2 := l6.free 13; have e3 := l6.lt)
 all_goals
  have hk6 : Kept (fun j => (Value.slice A n c).ownBlock = some j) w1 w6 := (Kept.drew _ w1).trans (kept_grown hg6) (fun _ _ h => h)
  have hge : ∀ j, (Value.slice A n c).ownBlock = some j → B ≤ j := fun j hj => (HO.out.lt j hj).1
  have hb6 : Below B w1 w6 := hk6.below (by omega) (fun j hj h => by have := hge _ h; omega)
  have q1 := l6.put 13 (.slice (some ⟨gh, 0, none⟩) (n + 1) caph)
  have o1 := owns_put ho6 l6 (by decide) 13 (.slice (some ⟨gh, 0, none⟩) (n + 1) caph)
  have k1 := ((HKW.out.trans (hk6.mono (T := fun k => k = g ∨ (Value.slice A n c).ownBlock = some k) (fun _ _ e => .inr e)) (fun _ _ e => e)).trans (Kept.put w6 g 13 (.slice (some ⟨gh, 0, none⟩) (n + 1) caph)) (fun _ _ (e : _ = g) => .inl e))
  have K1 := Lib.hid k1
  have b1 := (HBW.out.trans hb6).setCell (p := ⟨g, 13, none⟩) hBg (.slice (some ⟨gh, 0, none⟩) (n + 1) caph)
  rw [HN.out] at o1
  replace q1 : Lies (w6.setCell ⟨g, 13, none⟩ (.slice (some ⟨gh, 0, none⟩) (n + 1) caph)) g 73 (thC x (.slice (some ⟨gh, 0, none⟩) (n + 1) caph)) := q1
  have Q1 := Lib.hid q1
  have O1 := Lib.hid o1
  have B1 := Lib.hid b1
  clear hk6 hge hb6 q1 o1 b1 k1 l6 e1 e2 e3 ho6 hg6 hgh hg6l d4 el rb rl rf HO HBW HG HLE HKW
  generalize w6.setCell ⟨g, 13, none⟩ (.slice (some ⟨gh, 0, none⟩) (n + 1) caph) = w3 at *
  have s0 := (Q1.out.cell 0).trans (show _ = some (Value.int .i64 x.at_) from rfl)
  have s1 := (Q1.out.cell 1).trans (show _ = some (Value.int .i64 x.ph) from rfl)
  have s2 := (Q1.out.cell 2).trans (show _ = some (Value.int .i64 x.rg) from rfl)
  have s4 := (Q1.out.cell 4).trans (show _ = some (Value.int .u64 (x.tk : Int)) from rfl)
  have sl := Q1.out.lt
  have f0 := Q1.out.free 0
  have f1 := Q1.out.free 1
  have f2 := Q1.out.free 2
  have f4 := Q1.out.free 4
  have q2 := Q1.out.put 0 (.int .i64 (x.at_ + 1))
  have q3 := q2.put 1 (.int .i64 0)
  have q4 := q3.put 2 (.int .i64 0)
  have q5 := q4.put 4 (.int .u64 0)
  have o2 := owns_put O1.out Q1.out (by decide) 0 (.int .i64 (x.at_ + 1))
  have o3 := owns_put o2 q2 (by decide) 1 (.int .i64 0)
  have o4 := owns_put o3 q3 (by decide) 2 (.int .i64 0)
  have o5 := owns_put o4 q4 (by decide) 4 (.int .u64 0)
  have b5 := (((B1.out.setCell (p := ⟨g, 0, none⟩) hBg (.int .i64 (x.at_ + 1))).setCell (p := ⟨g, 1, none⟩) hBg (.int .i64 0)).setCell (p := ⟨g, 2, none⟩) hBg (.int .i64 0)).setCell (p := ⟨g, 4, none⟩) hBg (.int .u64 0)
  have k5 := ((((K1.out.trans (Kept.put _ g 0 (.int .i64 (x.at_ + 1))) (fun _ _ (e : _ = g) => .inl e)).trans (Kept.put _ g 1 (.int .i64 0)) (fun _ _ (e : _ = g) => .inl e)).trans (Kept.put _ g 2 (.int .i64 0)) (fun _ _ (e : _ = g) => .inl e)).trans (Kept.put _ g 4 (.int .u64 0)) (fun _ _ (e : _ = g) => .inl e))
  have K5 := Lib.hid k5
  have Q5 := Lib.hid q5
  have O5 := Lib.hid o5
  have B5 := Lib.hid b5
  clear q2 q3 q4 q5 o2 o3 o4 o5 b5 k5 Q1 O1 B1 K1
  go_wp2
  go_end0
  exact ⟨rfl, _, _, Q5.out, O5.out, B5.out, K5.out⟩
def mvB (a : Ak) : Bool := (a.kd == 1) || (a.kd == 2)
def fitB (a : Ak) (e : Ev) : Bool :=
 if e.kd = 1 then ((a.kd == 1) && (a.rg == e.rg))
 else if e.kd = 3 then ((a.kd == 2) && (a.rg == e.rg))
 else if e.kd = 2 then ((a.kd == 10) && ((a.rg == e.rg) && (a.tk == e.tk)))
 else if e.kd = 4 then ((a.kd == 11) && ((a.rg == e.rg) && (a.tk == e.tk)))
 else if e.kd = 13 then ((a.kd == 3) && (a.rg == e.rg))
 else if e.kd = 5 then (mvB a && ((a.rg == e.rg) && (a.md == 0)))
 else if e.kd = 6 then (mvB a && (a.rg == e.rg))
 else if e.kd = 7 then (mvB a && ((a.rg == e.rg) && (a.md == 2)))
 else if e.kd = 12 then ((a.kd == 7) && (a.vl == e.vl))
 else if e.kd = 8 then (a.kd == 4)
 else if e.kd = 9 then (a.kd == 5)
 else if e.kd = 10 then (a.kd == 6)
 else if e.kd = 11 then (a.kd == 6)
 else if e.kd = 14 then (a.kd == 8)
 else a.kd == 9
def aloneV (k : Int) : Int := if k = 8 then 4 else if k = 9 then 5 else if k = 10 ∨ k = 11 then 6 else if k = 14 then 8 else 9
set_option maxHeartbeats 2000000 in
set_option maxRecDepth 100000 in
theorem moves16 (a : Ak) (w : World) : Calls Tryz.prog 136 #[.agg (akC a)] w fun e w' => e = .returned (.bool (mvB a)) ∧ Below w.heap.size w w' := by
 have HB := Lib.hid ((Below.refl w.heap.size w).alloc (Nat.le_refl _) (.cells (akC a) 63))
 have HD : Hid (mvB a = ((a.kd == 1) || (a.kd == 2))) := rfl
 obtain ⟨b1, hb1⟩ : ∃ b, (a.kd == 1) = b := ⟨_, rfl⟩
 obtain ⟨b2, hb2⟩ : ∃ b, (a.kd == 2) = b := ⟨_, rfl⟩
 rw [hb1, hb2] at HD
 cases b1 <;> cases b2
 all_goals
  have HE := Lib.hid HD.out
  clear HD
  go_enter Tryz.func136, Tryz.ntmps136
  go_wp2
  go_ret
  exact ⟨ret_bool HE.out.symm, HB.out⟩
set_option maxHeartbeats 4000000 in
set_option maxRecDepth 100000 in
theorem alone16 (k : Int) (w : World) : Calls Tryz.prog 137 #[.int .i64 k] w fun e w' => e = .returned (.int .i64 (aloneV k)) ∧ w = w' := by
 have HD : Hid (aloneV k = if k = 8 then 4 else if k = 9 then 5 else if k = 10 ∨ k = 11 then 6 else if k = 14 then 8 else 9) := rfl
 by_cases k8 : k = 8
 ·subst k8
  go_enter Tryz.func137, Tryz.ntmps137
  go_wp2
  go_ret
  exact ⟨rfl, rfl⟩
 by_cases k9 : k = 9
 ·subst k9
  go_enter Tryz.func137, Tryz.ntmps137
  go_wp2
  go_ret
  exact ⟨rfl, rfl⟩
 by_cases k10 : k = 10
 ·subst k10
  go_enter Tryz.func137, Tryz.ntmps137
  go_wp2
  go_ret
  exact ⟨rfl, rfl⟩
 by_cases k11 : k = 11
 ·subst k11
  go_enter Tryz.func137, Tryz.ntmps137
  go_wp2
  go_ret
  exact ⟨rfl, rfl⟩
 by_cases k14 : k = 14
 ·subst k14
  go_enter Tryz.func137, Tryz.ntmps137
  go_wp2
  go_ret
  exact ⟨rfl, rfl⟩
 have HE : Hid (aloneV k = 9) := by show _ = _; rw [HD.out, if_neg k8, if_neg k9, if_neg (by omega), if_neg k14]
 have e8 : (k == 8) = false := by rw [beq_eq_false_iff_ne]; exact k8
 have e9 : (k == 9) = false := by rw [beq_eq_false_iff_ne]; exact k9
 have e10 : (k == 10) = false := by rw [beq_eq_false_iff_ne]; exact k10
 have e11 : (k == 11) = false := by rw [beq_eq_false_iff_ne]; exact k11
 have e14 : (k == 14) = false := by rw [beq_eq_false_iff_ne]; exact k14
 clear HD k8 k9 k10 k11 k14
 go_enter Tryz.func137, Tryz.ntmps137
 go_wp2
 go_ret
 exact ⟨by rw [HE.out]; rfl, rfl⟩
theorem ev_lies (w : World) (e : Ev) (a : Ak) : Lies ((w.alloc (.cells (evC e) 43)).alloc (.cells (akC a) 63)) w.heap.size 43 (evC e) := (Lies.made w 43 (evC e)).alloc _
theorem ak_lies (w : World) (e : Ev) (a : Ak) : Lies ((w.alloc (.cells (evC e) 43)).alloc (.cells (akC a) 63)) (w.heap.size + 1) 63 (akC a) := by
 have := Lies.made (w.alloc (.cells (evC e) 43)) 63 (akC a)
 rwa [show (w.alloc (.cells (evC e) 43)).heap.size = w.heap.size + 1 by simp] at this
theorem below2 (w : World) (o1 o2 : Obj) : Below w.heap.size w ((w.alloc o1).alloc o2) := ((Below.refl w.heap.size w).alloc (Nat.le_refl _) o1).alloc (by simp) o2
set_option maxHeartbeats 4000000 in
set_option maxRecDepth 100000 in
theorem mat1 (a : Ak) (e : Ev) (w : World) (hk : e.kd = 1) : Calls Tryz.prog 110 #[.agg (evC e), .agg (akC a)] w fun q w' => q = .returned (.bool (fitB a e)) ∧ Below w.heap.size w w' := by
 have HB := Lib.hid (below2 w (.cells (evC e) 43) (.cells (akC a) 63))
 have HD : Hid (fitB a e = ((a.kd == 1) && (a.rg == e.rg))) := by show _ = _; unfold fitB; simp [hk]
 obtain ⟨eth, ekd, erg, etk, evl⟩ := e
 have hk : ekd = 1 := hk
 subst hk
 obtain ⟨b0, hb0⟩ : ∃ b, (a.kd == 1) = b := ⟨_, rfl⟩
 rw [hb0] at HD
 obtain ⟨brg, hbrg⟩ : ∃ b, (a.rg == erg) = b := ⟨_, rfl⟩
 try dsimp only at HD
 rw [hbrg] at HD
 cases b0 <;> cases brg
 all_goals
  have HE := HD.out
  simp only [Bool.true_and, Bool.false_and, Bool.and_false, Bool.and_true] at HE
  have HE2 := Lib.hid HE
  clear HE HD
  go_enter Tryz.func110, Tryz.ntmps110
  go_wp2
  go_ret
  exact ⟨ret_bool HE2.out.symm, HB.out⟩
set_option maxHeartbeats 4000000 in
set_option maxRecDepth 100000 in
theorem mat3 (a : Ak) (e : Ev) (w : World) (hk : e.kd = 3) : Calls Tryz.prog 110 #[.agg (evC e), .agg (akC a)] w fun q w' => q = .returned (.bool (fitB a e)) ∧ Below w.heap.size w w' := by
 have HB := Lib.hid (below2 w (.cells (evC e) 43) (.cells (akC a) 63))
 have HD : Hid (fitB a e = ((a.kd == 2) && (a.rg == e.rg))) := by show _ = _; unfold fitB; simp [hk]
 obtain ⟨eth, ekd, erg, etk, evl⟩ := e
 have hk : ekd = 3 := hk
 subst hk
 obtain ⟨b0, hb0⟩ : ∃ b, (a.kd == 2) = b := ⟨_, rfl⟩
 rw [hb0] at HD
 obtain ⟨brg, hbrg⟩ : ∃ b, (a.rg == erg) = b := ⟨_, rfl⟩
 try dsimp only at HD
 rw [hbrg] at HD
 cases b0 <;> cases brg
 all_goals
  have HE := HD.out
  simp only [Bool.true_and, Bool.false_and, Bool.and_false, Bool.and_true] at HE
  have HE2 := Lib.hid HE
  clear HE HD
  go_enter Tryz.func110, Tryz.ntmps110
  go_wp2
  go_ret
  exact ⟨ret_bool HE2.out.symm, HB.out⟩
set_option maxHeartbeats 4000000 in
set_option maxRecDepth 100000 in
theorem mat2 (a : Ak) (e : Ev) (w : World) (hk : e.kd = 2) : Calls Tryz.prog 110 #[.agg (evC e), .agg (akC a)] w fun q w' => q = .returned (.bool (fitB a e)) ∧ Below w.heap.size w w' := by
 have HB := Lib.hid (below2 w (.cells (evC e) 43) (.cells (akC a) 63))
 have HD : Hid (fitB a e = ((a.kd == 10) && ((a.rg == e.rg) && (a.tk == e.tk)))) := by show _ = _; unfold fitB; simp [hk]
 obtain ⟨eth, ekd, erg, etk, evl⟩ := e
 have hk : ekd = 2 := hk
 subst hk
 obtain ⟨b0, hb0⟩ : ∃ b, (a.kd == 10) = b := ⟨_, rfl⟩
 rw [hb0] at HD
 obtain ⟨brg, hbrg⟩ : ∃ b, (a.rg == erg) = b := ⟨_, rfl⟩
 try dsimp only at HD
 rw [hbrg] at HD
 obtain ⟨btk, hbtk⟩ : ∃ b, (a.tk == etk) = b := ⟨_, rfl⟩
 have ibtk : ((a.tk : Int) == (etk : Int)) = btk := by rw [← hbtk, Bool.eq_iff_iff, beq_iff_eq, beq_iff_eq]; omega
 try dsimp only at HD
 rw [hbtk] at HD
 cases b0 <;> cases brg <;> cases btk
 all_goals
  have HE := HD.out
  simp only [Bool.true_and, Bool.false_and, Bool.and_false, Bool.and_true] at HE
  have HE2 := Lib.hid HE
  clear HE HD
  go_enter Tryz.func110, Tryz.ntmps110
  go_wp2
  go_ret
  exact ⟨ret_bool HE2.out.symm, HB.out⟩
set_option maxHeartbeats 4000000 in
set_option maxRecDepth 100000 in
theorem mat4 (a : Ak) (e : Ev) (w : World) (hk : e.kd = 4) : Calls Tryz.prog 110 #[.agg (evC e), .agg (akC a)] w fun q w' => q = .returned (.bool (fitB a e)) ∧ Below w.heap.size w w' := by
 have HB := Lib.hid (below2 w (.cells (evC e) 43) (.cells (akC a) 63))
 have HD : Hid (fitB a e = ((a.kd == 11) && ((a.rg == e.rg) && (a.tk == e.tk)))) := by show _ = _; unfold fitB; simp [hk]
 obtain ⟨eth, ekd, erg, etk, evl⟩ := e
 have hk : ekd = 4 := hk
 subst hk
 obtain ⟨b0, hb0⟩ : ∃ b, (a.kd == 11) = b := ⟨_, rfl⟩
 rw [hb0] at HD
 obtain ⟨brg, hbrg⟩ : ∃ b, (a.rg == erg) = b := ⟨_, rfl⟩
 try dsimp only at HD
 rw [hbrg] at HD
 obtain ⟨btk, hbtk⟩ : ∃ b, (a.tk == etk) = b := ⟨_, rfl⟩
 have ibtk : ((a.tk : Int) == (etk : Int)) = btk := by rw [← hbtk, Bool.eq_iff_iff, beq_iff_eq, beq_iff_eq]; omega
 try dsimp only at HD
 rw [hbtk] at HD
 cases b0 <;> cases brg <;> cases btk
 all_goals
  have HE := HD.out
  simp only [Bool.true_and, Bool.false_and, Bool.and_false, Bool.and_true] at HE
  have HE2 := Lib.hid HE
  clear HE HD
  go_enter Tryz.func110, Tryz.ntmps110
  go_wp2
  go_ret
  exact ⟨ret_bool HE2.out.symm, HB.out⟩
set_option maxHeartbeats 4000000 in
set_option maxRecDepth 100000 in
theorem mat13 (a : Ak) (e : Ev) (w : World) (hk : e.kd = 13) : Calls Tryz.prog 110 #[.agg (evC e), .agg (akC a)] w fun q w' => q = .returned (.bool (fitB a e)) ∧ Below w.heap.size w w' := by
 have HB := Lib.hid (below2 w (.cells (evC e) 43) (.cells (akC a) 63))
 have HD : Hid (fitB a e = ((a.kd == 3) && (a.rg == e.rg))) := by show _ = _; unfold fitB; simp [hk]
 obtain ⟨eth, ekd, erg, etk, evl⟩ := e
 have hk : ekd = 13 := hk
 subst hk
 obtain ⟨b0, hb0⟩ : ∃ b, (a.kd == 3) = b := ⟨_, rfl⟩
 rw [hb0] at HD
 obtain ⟨brg, hbrg⟩ : ∃ b, (a.rg == erg) = b := ⟨_, rfl⟩
 try dsimp only at HD
 rw [hbrg] at HD
 cases b0 <;> cases brg
 all_goals
  have HE := HD.out
  simp only [Bool.true_and, Bool.false_and, Bool.and_false, Bool.and_true] at HE
  have HE2 := Lib.hid HE
  clear HE HD
  go_enter Tryz.func110, Tryz.ntmps110
  go_wp2
  go_ret
  exact ⟨ret_bool HE2.out.symm, HB.out⟩
set_option maxHeartbeats 4000000 in
set_option maxRecDepth 100000 in
theorem mat5 (a : Ak) (e : Ev) (w : World) (hk : e.kd = 5) : Calls Tryz.prog 110 #[.agg (evC e), .agg (akC a)] w fun q w' => q = .returned (.bool (fitB a e)) ∧ Below w.heap.size w w' := by
 have HB := Lib.hid (below2 w (.cells (evC e) 43) (.cells (akC a) 63))
 have HD : Hid (fitB a e = (mvB a && ((a.rg == e.rg) && (a.md == 0)))) := by show _ = _; unfold fitB; simp [hk]
 obtain ⟨eth, ekd, erg, etk, evl⟩ := e
 have hk : ekd = 5 := hk
 subst hk
 have HM := Lib.hid (fun q => moves16 a q)
 have HL0 := Lib.hid (ev_lies w ⟨eth, 5, erg, etk, evl⟩ a)
 have HL1 := Lib.hid (ak_lies w ⟨eth, 5, erg, etk, evl⟩ a)
 generalize mvB a = b0 at *
 obtain ⟨brg, hbrg⟩ : ∃ b, (a.rg == erg) = b := ⟨_, rfl⟩
 try dsimp only at HD
 rw [hbrg] at HD
 obtain ⟨bm0, hbm0⟩ : ∃ b, (a.md == 0) = b := ⟨_, rfl⟩
 try dsimp only at HD
 rw [hbm0] at HD
 cases b0 <;> cases brg <;> cases bm0
 all_goals
  have HE := HD.out
  simp only [Bool.true_and, Bool.false_and, Bool.and_false, Bool.and_true] at HE
  have HE2 := Lib.hid HE
  clear HE HD
  go_enter Tryz.func110, Tryz.ntmps110
  go_wp2_with fail
  refine (HM.out _).mono ?_
  rintro q w3 ⟨rfl, hbm⟩
  have l0 := HL0.out.below hbm HL0.out.lt
  have l1 := HL1.out.below hbm HL1.out.lt
  have HB3 := Lib.hid (HB.out.trans (hbm.mono HB.out.size))
  have c2 := (l0.cell 2).trans (show _ = some (Value.int .i64 erg) from rfl)
  have d1 := (l1.cell 1).trans (show _ = some (Value.int .i64 a.rg) from rfl)
  have d2 := (l1.cell 2).trans (show _ = some (Value.int .i64 a.md) from rfl)
  have cl := l0.lt
  have dl := l1.lt
  clear hbm l0 l1 HL0 HL1 HM HB
  go_wp2
  go_ret
  exact ⟨ret_bool HE2.out.symm, HB3.out⟩
set_option maxHeartbeats 4000000 in
set_option maxRecDepth 100000 in
theorem mat6 (a : Ak) (e : Ev) (w : World) (hk : e.kd = 6) : Calls Tryz.prog 110 #[.agg (evC e), .agg (akC a)] w fun q w' => q = .returned (.bool (fitB a e)) ∧ Below w.heap.size w w' := by
 have HB := Lib.hid (below2 w (.cells (evC e) 43) (.cells (akC a) 63))
 have HD : Hid (fitB a e = (mvB a && (a.rg == e.rg))) := by show _ = _; unfold fitB; simp [hk]
 obtain ⟨eth, ekd, erg, etk, evl⟩ := e
 have hk : ekd = 6 := hk
 subst hk
 have HM := Lib.hid (fun q => moves16 a q)
 have HL0 := Lib.hid (ev_lies w ⟨eth, 6, erg, etk, evl⟩ a)
 have HL1 := Lib.hid (ak_lies w ⟨eth, 6, erg, etk, evl⟩ a)
 generalize mvB a = b0 at *
 obtain ⟨brg, hbrg⟩ : ∃ b, (a.rg == erg) = b := ⟨_, rfl⟩
 try dsimp only at HD
 rw [hbrg] at HD
 cases b0 <;> cases brg
 all_goals
  have HE := HD.out
  simp only [Bool.true_and, Bool.false_and, Bool.and_false, Bool.and_true] at HE
  have HE2 := Lib.hid HE
  clear HE HD
  go_enter Tryz.func110, Tryz.ntmps110
  go_wp2_with fail
  refine (HM.out _).mono ?_
  rintro q w3 ⟨rfl, hbm⟩
  have l0 := HL0.out.below hbm HL0.out.lt
  have l1 := HL1.out.below hbm HL1.out.lt
  have HB3 := Lib.hid (HB.out.trans (hbm.mono HB.out.size))
  have c2 := (l0.cell 2).trans (show _ = some (Value.int .i64 erg) from rfl)
  have d1 := (l1.cell 1).trans (show _ = some (Value.int .i64 a.rg) from rfl)
  have d2 := (l1.cell 2).trans (show _ = some (Value.int .i64 a.md) from rfl)
  have cl := l0.lt
  have dl := l1.lt
  clear hbm l0 l1 HL0 HL1 HM HB
  go_wp2
  go_ret
  exact ⟨ret_bool HE2.out.symm, HB3.out⟩
set_option maxHeartbeats 4000000 in
set_option maxRecDepth 100000 in
theorem mat7 (a : Ak) (e : Ev) (w : World) (hk : e.kd = 7) : Calls Tryz.prog 110 #[.agg (evC e), .agg (akC a)] w fun q w' => q = .returned (.bool (fitB a e)) ∧ Below w.heap.size w w' := by
 have HB := Lib.hid (below2 w (.cells (evC e) 43) (.cells (akC a) 63))
 have HD : Hid (fitB a e = (mvB a && ((a.rg == e.rg) && (a.md == 2)))) := by show _ = _; unfold fitB; simp [hk]
 obtain ⟨eth, ekd, erg, etk, evl⟩ := e
 have hk : ekd = 7 := hk
 subst hk
 have HM := Lib.hid (fun q => moves16 a q)
 have HL0 := Lib.hid (ev_lies w ⟨eth, 7, erg, etk, evl⟩ a)
 have HL1 := Lib.hid (ak_lies w ⟨eth, 7, erg, etk, evl⟩ a)
 generalize mvB a = b0 at *
 obtain ⟨brg, hbrg⟩ : ∃ b, (a.rg == erg) = b := ⟨_, rfl⟩
 try dsimp only at HD
 rw [hbrg] at HD
 obtain ⟨bm2, hbm2⟩ : ∃ b, (a.md == 2) = b := ⟨_, rfl⟩
 try dsimp only at HD
 rw [hbm2] at HD
 cases b0 <;> cases brg <;> cases bm2
 all_goals
  have HE := HD.out
  simp only [Bool.true_and, Bool.false_and, Bool.and_false, Bool.and_true] at HE
  have HE2 := Lib.hid HE
  clear HE HD
  go_enter Tryz.func110, Tryz.ntmps110
  go_wp2_with fail
  refine (HM.out _).mono ?_
  rintro q w3 ⟨rfl, hbm⟩
  have l0 := HL0.out.below hbm HL0.out.lt
  have l1 := HL1.out.below hbm HL1.out.lt
  have HB3 := Lib.hid (HB.out.trans (hbm.mono HB.out.size))
  have c2 := (l0.cell 2).trans (show _ = some (Value.int .i64 erg) from rfl)
  have d1 := (l1.cell 1).trans (show _ = some (Value.int .i64 a.rg) from rfl)
  have d2 := (l1.cell 2).trans (show _ = some (Value.int .i64 a.md) from rfl)
  have cl := l0.lt
  have dl := l1.lt
  clear hbm l0 l1 HL0 HL1 HM HB
  go_wp2
  go_ret
  exact ⟨ret_bool HE2.out.symm, HB3.out⟩
set_option maxHeartbeats 4000000 in
set_option maxRecDepth 100000 in
theorem mat12 (a : Ak) (e : Ev) (w : World) (hk : e.kd = 12) : Calls Tryz.prog 110 #[.agg (evC e), .agg (akC a)] w fun q w' => q = .returned (.bool (fitB a e)) ∧ Below w.heap.size w w' := by
 have HB := Lib.hid (below2 w (.cells (evC e) 43) (.cells (akC a) 63))
 have HD : Hid (fitB a e = ((a.kd == 7) && (a.vl == e.vl))) := by show _ = _; unfold fitB; simp [hk]
 obtain ⟨eth, ekd, erg, etk, evl⟩ := e
 have hk : ekd = 12 := hk
 subst hk
 obtain ⟨b0, hb0⟩ : ∃ b, (a.kd == 7) = b := ⟨_, rfl⟩
 rw [hb0] at HD
 obtain ⟨bvl, hbvl⟩ : ∃ b, (a.vl == evl) = b := ⟨_, rfl⟩
 have ibvl : ((a.vl : Int) == (evl : Int)) = bvl := by rw [← hbvl, Bool.eq_iff_iff, beq_iff_eq, beq_iff_eq]; omega
 try dsimp only at HD
 rw [hbvl] at HD
 cases b0 <;> cases bvl
 all_goals
  have HE := HD.out
  simp only [Bool.true_and, Bool.false_and, Bool.and_false, Bool.and_true] at HE
  have HE2 := Lib.hid HE
  clear HE HD
  go_enter Tryz.func110, Tryz.ntmps110
  go_wp2
  go_ret
  exact ⟨ret_bool HE2.out.symm, HB.out⟩
theorem fitB_alone {a : Ak} {e : Ev} (h : e.kd ≠ 1 ∧ e.kd ≠ 2 ∧ e.kd ≠ 3 ∧ e.kd ≠ 4 ∧ e.kd ≠ 5 ∧ e.kd ≠ 6 ∧ e.kd ≠ 7 ∧ e.kd ≠ 12 ∧ e.kd ≠ 13) : fitB a e = (a.kd == aloneV e.kd) := by
 obtain ⟨n1, n2, n3, n4, n5, n6, n7, n12, n13⟩ := h
 unfold fitB aloneV
 rw [if_neg n1, if_neg n3, if_neg n2, if_neg n4, if_neg n13, if_neg n5, if_neg n6, if_neg n7, if_neg n12]
 by_cases k8 : e.kd = 8
 ·rw [if_pos k8, if_pos k8]
 rw [if_neg k8, if_neg k8]
 by_cases k9 : e.kd = 9
 ·rw [if_pos k9, if_pos k9]
 rw [if_neg k9, if_neg k9]
 by_cases k10 : e.kd = 10
 ·rw [if_pos k10, if_pos (.inl k10)]
 rw [if_neg k10]
 by_cases k11 : e.kd = 11
 ·rw [if_pos k11, if_pos (.inr k11)]
 rw [if_neg k11, if_neg (show ¬ (e.kd = 10 ∨ e.kd = 11) from fun h => h.elim k10 k11)]
 by_cases k14 : e.kd = 14
 ·rw [if_pos k14, if_pos k14]
 rw [if_neg k14, if_neg k14]
set_option maxHeartbeats 4000000 in
set_option maxRecDepth 100000 in
theorem mat0 (a : Ak) (e : Ev) (w : World) (hk : e.kd ≠ 1 ∧ e.kd ≠ 2 ∧ e.kd ≠ 3 ∧ e.kd ≠ 4 ∧ e.kd ≠ 5 ∧ e.kd ≠ 6 ∧ e.kd ≠ 7 ∧ e.kd ≠ 12 ∧ e.kd ≠ 13) : Calls Tryz.prog 110 #[.agg (evC e), .agg (akC a)] w fun q w' => q = .returned (.bool (fitB a e)) ∧ Below w.heap.size w w' := by
 have HB := Lib.hid (below2 w (.cells (evC e) 43) (.cells (akC a) 63))
 have HE := Lib.hid (fitB_alone (a := a) hk)
 obtain ⟨n1, n2, n3, n4, n5, n6, n7, n12, n13⟩ := hk
 have e1 : (e.kd == 1) = false := by rw [beq_eq_false_iff_ne]; exact n1
 have e2 : (e.kd == 2) = false := by rw [beq_eq_false_iff_ne]; exact n2
 have e3 : (e.kd == 3) = false := by rw [beq_eq_false_iff_ne]; exact n3
 have e4 : (e.kd == 4) = false := by rw [beq_eq_false_iff_ne]; exact n4
 have e5 : (e.kd == 5) = false := by rw [beq_eq_false_iff_ne]; exact n5
 have e6 : (e.kd == 6) = false := by rw [beq_eq_false_iff_ne]; exact n6
 have e7 : (e.kd == 7) = false := by rw [beq_eq_false_iff_ne]; exact n7
 have e12 : (e.kd == 12) = false := by rw [beq_eq_false_iff_ne]; exact n12
 have e13 : (e.kd == 13) = false := by rw [beq_eq_false_iff_ne]; exact n13
 have HAL := Lib.hid (fun q => alone16 e.kd q)
 clear n1 n2 n3 n4 n5 n6 n7 n12 n13
 go_enter Tryz.func110, Tryz.ntmps110
 go_upto_region 20 with (fail)
 go_quiet ((go_at_call 137; exact quiet_same3 ((HAL.out _)) ⟨_, rfl⟩))
 have HB2 := Lib.hid (below_drewN HB.out nq)
 go_wp2
 go_ret
 exact ⟨ret_bool HE.out.symm, HB2.out⟩
theorem matches16 (a : Ak) (e : Ev) (w : World) : Calls Tryz.prog 110 #[.agg (evC e), .agg (akC a)] w fun q w' => q = .returned (.bool (fitB a e)) ∧ Below w.heap.size w w' := by
 by_cases h1 : e.kd = 1
 ·exact mat1 a e w h1
 by_cases h2 : e.kd = 2
 ·exact mat2 a e w h2
 by_cases h3 : e.kd = 3
 ·exact mat3 a e w h3
 by_cases h4 : e.kd = 4
 ·exact mat4 a e w h4
 by_cases h5 : e.kd = 5
 ·exact mat5 a e w h5
 by_cases h6 : e.kd = 6
 ·exact mat6 a e w h6
 by_cases h7 : e.kd = 7
 ·exact mat7 a e w h7
 by_cases h12 : e.kd = 12
 ·exact mat12 a e w h12
 by_cases h13 : e.kd = 13
 ·exact mat13 a e w h13
 exact mat0 a e w ⟨h1, h2, h3, h4, h5, h6, h7, h12, h13⟩
theorem thZ_one : thZ.all (·.oneCell') = true := thC_one ⟨0, 0, 0, 0, 0, fun _ => 0, []⟩ (v := .slice none 0 0) rfl
theorem akZ_one : akZ.all (·.oneCell') = true := akC_one (noneA 0)
set_option maxHeartbeats 8000000 in
set_option maxRecDepth 100000 in
theorem next16no (l : List In) (A : Option Addr) (c : Nat) (x : Th) (v : Value) (w : World) (h : InsAt w A c l) (hr : thB l x = false) :
  Calls Tryz.prog 76 #[.slice A l.length c, .agg (thC x v)] w fun e w' => e = .returned (.tuple #[.agg thZ, .agg akZ, .int .i64 1]) ∧ Below w.heap.size w w' := by
 obtain ⟨hc1, hc2⟩ := seq_form h
 have hb3 : Below w.heap.size w (((w.alloc (.cells (thC x v) 73)).alloc (.cells thZ 73)).alloc (.cells akZ 63)) := (((Below.refl _ _).alloc (Nat.le_refl _) _).alloc (by simp) _).alloc (by simp; omega) _
 have l1 := ((Lies.made w 73 (thC x v)).alloc (.cells thZ 73)).alloc (.cells akZ 63)
 have l2 := (Lies.made (w.alloc (.cells (thC x v) 73)) 73 thZ).alloc (.cells akZ 63)
 have l3 := Lies.made ((w.alloc (.cells (thC x v) 73)).alloc (.cells thZ 73)) 63 akZ
 rw [show (w.alloc (.cells (thC x v) 73)).heap.size = w.heap.size + 1 by simp] at l2
 rw [show ((w.alloc (.cells (thC x v) 73)).alloc (.cells thZ 73)).heap.size = w.heap.size + 1 + 1 by simp] at l3
 have HB := Lib.hid hb3
 have HG := Lib.hid l1
 have H4 := Lib.hid l2
 have H5 := Lib.hid l3
 have HH := Lib.hid (fun (q : World) (hq : Below w.heap.size w q) => h.later hq)
 have HRT := Lib.hid (fun q hq => thRight l A c x v q hq)
 rw [hr] at HRT
 clear hb3 l1 l2 l3 h hr
 go_enter Tryz.func76, Tryz.ntmps76
 go_upto_region 1 with (fail)
 generalize (((w.alloc (.cells (thC x v) 73)).alloc (.cells thZ 73)).alloc (.cells akZ 63)) = w1 at *
 have c0 := (HG.out.cell 0).trans (show _ = some (Value.int .i64 x.at_) from rfl)
 have c1 := (HG.out.cell 1).trans (show _ = some (Value.int .i64 x.ph) from rfl)
 have c2 := (HG.out.cell 2).trans (show _ = some (Value.int .i64 x.rg) from rfl)
 have c3 := (HG.out.cell 3).trans (show _ = some (Value.int .i64 x.st) from rfl)
 have c4 := (HG.out.cell 4).trans (show _ = some (Value.int .u64 (x.tk : Int)) from rfl)
 have c5 := (HG.out.cell 5).trans (show _ = some (Value.int .u64 (x.r 0 : Int)) from rfl)
 have c6 := (HG.out.cell 6).trans (show _ = some (Value.int .u64 (x.r 1 : Int)) from rfl)
 have c7 := (HG.out.cell 7).trans (show _ = some (Value.int .u64 (x.r 2 : Int)) from rfl)
 have c8 := (HG.out.cell 8).trans (show _ = some (Value.int .u64 (x.r 3 : Int)) from rfl)
 have c9 := (HG.out.cell 9).trans (show _ = some (Value.int .u64 (x.r 4 : Int)) from rfl)
 have c10 := (HG.out.cell 10).trans (show _ = some (Value.int .u64 (x.r 5 : Int)) from rfl)
 have c11 := (HG.out.cell 11).trans (show _ = some (Value.int .u64 (x.r 6 : Int)) from rfl)
 have c12 := (HG.out.cell 12).trans (show _ = some (Value.int .u64 (x.r 7 : Int)) from rfl)
 have c13 := (HG.out.cell 13).trans (show _ = some (v) from rfl)
 have cl := HG.out.lt
 go_wp2_with fail
 refine (HRT.out _ (HH.out _ HB.out)).mono ?_
 rintro e w2 ⟨rfl, hbm⟩
 replace H4 := Lib.hid (H4.out.below hbm H4.out.lt)
 replace H5 := Lib.hid (H5.out.below hbm H5.out.lt)
 replace HB := Lib.hid (HB.out.trans (hbm.mono HB.out.size))
 clear c0 c1 c2 c3 c4 c5 c6 c7 c8 c9 c10 c11 c12 c13 cl
 clear hbm HRT HG
 go_wp2_with (
  refine wpList_store_row rfl 73 _ _ rfl (w.heap.size + 1) thZ rfl rfl 73 thZ H4.out infoTh rfl thZ_one ?_
  have hk4 := kept_rowT (w := w2) (g := w.heap.size + 1) thZ
  have HB2 := Lib.hid (HB.out.trans (hk4.below HB.out.size (fun k hk (e : k = w.heap.size + 1) => by omega)))
  have Q4A := Lib.hid (lies_row H4.out thZ)
  have H5A := Lib.hid (H5.out.kept hk4 (fun (e : w.heap.size + 1 + 1 = w.heap.size + 1) => by omega))
  clear hk4
  generalize w2.setRow (w.heap.size + 1) thZ = wD at *
  go_wp2_with (
   refine wpList_store_row rfl 63 _ _ rfl (w.heap.size + 1 + 1) akZ rfl rfl 63 akZ H5A.out infoAk rfl akZ_one ?_
   have hk5 := kept_rowT (w := wD) (g := w.heap.size + 1 + 1) akZ
   have HBZ := Lib.hid (HB2.out.trans (hk5.below HB2.out.size (fun k hk (e : k = w.heap.size + 1 + 1) => by omega)))
   have Q5 := Lib.hid (lies_row H5A.out akZ)
   have Q4 := Lib.hid (Q4A.out.kept hk5 (fun (e : w.heap.size + 1 = w.heap.size + 1 + 1) => by omega))
   clear hk5
   generalize wD.setRow (w.heap.size + 1 + 1) akZ = wE at *
   clear HB2 Q4A H5A H4 H5 HB
   have z0 := (Q4.out.cell 0).trans (show _ = some (.int .i64 0) from rfl)
   have z1 := (Q4.out.cell 1).trans (show _ = some (.int .i64 0) from rfl)
   have z2 := (Q4.out.cell 2).trans (show _ = some (.int .i64 0) from rfl)
   have z3 := (Q4.out.cell 3).trans (show _ = some (.int .i64 0) from rfl)
   have z4 := (Q4.out.cell 4).trans (show _ = some (.int .u64 0) from rfl)
   have z5 := (Q4.out.cell 5).trans (show _ = some (.int .u64 0) from rfl)
   have z6 := (Q4.out.cell 6).trans (show _ = some (.int .u64 0) from rfl)
   have z7 := (Q4.out.cell 7).trans (show _ = some (.int .u64 0) from rfl)
   have z8 := (Q4.out.cell 8).trans (show _ = some (.int .u64 0) from rfl)
   have z9 := (Q4.out.cell 9).trans (show _ = some (.int .u64 0) from rfl)
   have z10 := (Q4.out.cell 10).trans (show _ = some (.int .u64 0) from rfl)
   have z11 := (Q4.out.cell 11).trans (show _ = some (.int .u64 0) from rfl)
   have z12 := (Q4.out.cell 12).trans (show _ = some (.int .u64 0) from rfl)
   have z13 := (Q4.out.cell 13).trans (show _ = some (.slice none 0 0) from rfl)
   have k0 := (Q5.out.cell 0).trans (show _ = some (.int .i64 0) from rfl)
   have k1 := (Q5.out.cell 1).trans (show _ = some (.int .i64 0) from rfl)
   have k2 := (Q5.out.cell 2).trans (show _ = some (.int .i64 0) from rfl)
   have k3 := (Q5.out.cell 3).trans (show _ = some (.int .i64 0) from rfl)
   have k4 := (Q5.out.cell 4).trans (show _ = some (.int .u64 0) from rfl)
   have k5 := (Q5.out.cell 5).trans (show _ = some (.int .u64 0) from rfl)
   go_wp2
   exact bodyPost_ret (v := .tuple #[.agg thZ, .agg akZ, .int .i64 1]) (by simp [results, Tryz.results76, go_sem, z0, z1, z2, z3, z4, z5, z6, z7, z8, z9, z10, z11, z12, z13, k0, k1, k2, k3, k4, k5]) rfl ⟨rfl, HBZ.out⟩))
def behT (i : In) (y : Th) (e : Ev) (v : Nat) : Th :=
 if e.kd = 1 then { y with ph := 1, rg := e.rg, tk := e.tk }
 else if e.kd = 3 then { y with ph := 2, rg := e.rg, tk := e.tk }
 else if e.kd = 14 then { y with st := 1 }
 else if e.kd = 15 then { y with st := 2 }
 else if e.kd = 12 then endT (seeT y e.vl)
 else endT (regT i y e v)
theorem regT_sn (i : In) (y : Th) (e : Ev) (v : Nat) : (regT i y e v).sn = y.sn := by
 unfold regT
 repeat' split
 all_goals rfl
theorem rgV_low {vs : List (Option Value)} {F : Nat → World → Prop} {j : Nat} {u : Value} {q q' : World} (hj : (vs.getD j none).isSome = true) (h : rgV vs F j u q) : rgV vs F j u q' := by
 unfold rgV at h ⊢
 cases hv : vs.getD j none with
 | some v => rw [hv] at h; exact h
 | none => rw [hv] at hj; cases hj
theorem right_ab {i : In} (h : rightB i = true) : (0 ≤ i.a ∧ i.a ≤ 7) ∧ (0 ≤ i.b ∧ i.b ≤ 7) := by
 have h1 := h
 unfold rightB at h
 simp only [Bool.and_eq_true] at h
 obtain ⟨h0, h1, h2, h3, h4, h5⟩ := h
 have g : (gL i.op).1 ≤ 7 ∧ (gL i.op).2.1 ≤ 7 ∧ (gL i.op).2.2.1 ≤ 7 ∧ (gL i.op).2.2.2 ≤ 7 := by
  rcases op_lit h0 with e | e | e | e | e | e | e | e | e | e | e | e | e | e | e | e | e | e | e | e | e | e | e | e | e
  all_goals rw [e]; decide
 unfold wB at h1 h2
 simp only [Bool.and_eq_true, decide_eq_true_eq] at h1 h2
 omega
theorem fit_none (e : Ev) : fitB (noneA 0) e = false := by
 simp [fitB, noneA, mvB]
theorem fit_halt {e : Ev} (h : fitB (noneA 8) e = true) : e.kd = 14 := by
 by_cases h14 : e.kd = 14
 ·exact h14
 ·simp [fitB, noneA, mvB, h14] at h
theorem fit_at {l : List In} {y : Th} {e : Ev} (h : fitB (reqA l y) e = true) (h14 : e.kd ≠ 14) : y.st = 0 ∧ y.at_ ≠ (l.length : Int) := by
 by_cases hs : y.st = 0
 ·refine ⟨hs, fun ha => ?_⟩
  rw [reqA_end hs ha] at h
  exact h14 (fit_halt h)
 ·rw [reqA_st hs, fit_none] at h; cases h
set_option maxHeartbeats 8000000 in
set_option maxRecDepth 100000 in
theorem do16bad (l : List In) (A : Option Addr) (c : Nat) (x : Th) (S : Option Addr) (cs : Nat) (e : Ev) (v : Nat) (w : World) (h : InsAt w A c l) (hr : thB l x = false) :
  Calls Tryz.prog 73 #[.slice A l.length c, .agg (thC x (.slice S x.sn.length cs)), .agg (evC e), .int .u64 (v : Int)] w fun q w' => q = .returned (.tuple #[.agg thZ, .int .i64 1]) ∧ Below w.heap.size w w' := by
 obtain ⟨hc1, hc2⟩ := seq_form h
 have hb3 : Below w.heap.size w (((w.alloc (.cells (thC x (.slice S x.sn.length cs)) 73)).alloc (.cells (evC e) 43)).alloc (.cells thZ 73)) := (((Below.refl _ _).alloc (Nat.le_refl _) _).alloc (by simp) _).alloc (by simp; omega) _
 have l1 := ((Lies.made w 73 (thC x (.slice S x.sn.length cs))).alloc (.cells (evC e) 43)).alloc (.cells thZ 73)
 have l2 := (Lies.made (w.alloc (.cells (thC x (.slice S x.sn.length cs)) 73)) 43 (evC e)).alloc (.cells thZ 73)
 have l3 := Lies.made ((w.alloc (.cells (thC x (.slice S x.sn.length cs)) 73)).alloc (.cells (evC e) 43)) 73 thZ
 rw [show (w.alloc (.cells (thC x (.slice S x.sn.length cs)) 73)).heap.size = w.heap.size + 1 by simp] at l2
 rw [show ((w.alloc (.cells (thC x (.slice S x.sn.length cs)) 73)).alloc (.cells (evC e) 43)).heap.size = w.heap.size + 1 + 1 by simp] at l3
 have HB := Lib.hid hb3
 have HG := Lib.hid l1
 have HE := Lib.hid l2
 have H4 := Lib.hid l3
 have HH := Lib.hid (fun (q : World) (hq : Below w.heap.size w q) => h.later hq)
 clear hb3 l1 l2 l3
 have HNX := Lib.hid (fun v q hq => next16no l A c x v q hq hr)
 clear h hr
 go_enter Tryz.func73, Tryz.ntmps73
 go_upto_region 1 with (fail)
 generalize (((w.alloc (.cells (thC x (.slice S x.sn.length cs)) 73)).alloc (.cells (evC e) 43)).alloc (.cells thZ 73)) = w1 at *
 have c0 := (HG.out.cell 0).trans (show _ = some (Value.int .i64 x.at_) from rfl)
 have c1 := (HG.out.cell 1).trans (show _ = some (Value.int .i64 x.ph) from rfl)
 have c2 := (HG.out.cell 2).trans (show _ = some (Value.int .i64 x.rg) from rfl)
 have c3 := (HG.out.cell 3).trans (show _ = some (Value.int .i64 x.st) from rfl)
 have c4 := (HG.out.cell 4).trans (show _ = some (Value.int .u64 (x.tk : Int)) from rfl)
 have c5 := (HG.out.cell 5).trans (show _ = some (Value.int .u64 (x.r 0 : Int)) from rfl)
 have c6 := (HG.out.cell 6).trans (show _ = some (Value.int .u64 (x.r 1 : Int)) from rfl)
 have c7 := (HG.out.cell 7).trans (show _ = some (Value.int .u64 (x.r 2 : Int)) from rfl)
 have c8 := (HG.out.cell 8).trans (show _ = some (Value.int .u64 (x.r 3 : Int)) from rfl)
 have c9 := (HG.out.cell 9).trans (show _ = some (Value.int .u64 (x.r 4 : Int)) from rfl)
 have c10 := (HG.out.cell 10).trans (show _ = some (Value.int .u64 (x.r 5 : Int)) from rfl)
 have c11 := (HG.out.cell 11).trans (show _ = some (Value.int .u64 (x.r 6 : Int)) from rfl)
 have c12 := (HG.out.cell 12).trans (show _ = some (Value.int .u64 (x.r 7 : Int)) from rfl)
 have c13 := (HG.out.cell 13).trans (show _ = some ((.slice S x.sn.length cs)) from rfl)
 have cl := HG.out.lt
 go_wp2_with fail
 refine (HNX.out _ _ (HH.out _ HB.out)).mono ?_
 rintro e1 w2 ⟨rfl, hbm⟩
 have HN2 : Hid (w.heap.size + 1 + 1 < w2.heap.size) := Nat.lt_of_lt_of_le H4.out.lt hbm.size
 replace HG := Lib.hid (HG.out.below hbm HG.out.lt)
 replace HE := Lib.hid (HE.out.below hbm HE.out.lt)
 replace H4 := Lib.hid (H4.out.below hbm H4.out.lt)
 replace HB := Lib.hid (HB.out.trans (hbm.mono HB.out.size))
 clear hbm HNX
 clear c0 c1 c2 c3 c4 c5 c6 c7 c8 c9 c10 c11 c12 c13 cl
 have hba := (Below.refl w2.heap.size w2).alloc (Nat.le_refl _) (.cells akZ 63)
 have H5 := Lib.hid (Lies.made w2 63 akZ)
 replace HG := Lib.hid (HG.out.below hba HG.out.lt)
 replace HE := Lib.hid (HE.out.below hba HE.out.lt)
 replace H4 := Lib.hid (H4.out.below hba H4.out.lt)
 replace HB := Lib.hid (HB.out.trans (hba.mono HB.out.size))
 have hn5 : w.heap.size + 1 + 1 < w2.heap.size := HN2.out
 clear hba HN2
 generalize hw3 : w2.alloc (.cells akZ 63) = w3 at *
 generalize hn5e : w2.heap.size = n5 at *
 go_wp2_with (
  refine wpList_store_row rfl 73 _ _ rfl (w.heap.size) (thZ) rfl rfl 73 (thC x (.slice S x.sn.length cs)) HG.out infoTh rfl (thZ_one) ?_
  try clear hw3
  have hk4 := kept_rowT (w := w3) (g := w.heap.size) (thZ)
  replace HG := Lib.hid (lies_row HG.out (thZ))
  replace HE := Lib.hid (HE.out.kept hk4 (fun (e : w.heap.size + 1 = w.heap.size) => by omega))
  replace H4 := Lib.hid (H4.out.kept hk4 (fun (e : w.heap.size + 1 + 1 = w.heap.size) => by omega))
  replace H5 := Lib.hid (H5.out.kept hk4 (fun (e : n5 = w.heap.size) => by omega))
  replace HB := Lib.hid (HB.out.trans (hk4.below HB.out.size (fun k hk (e : k = w.heap.size) => by omega)))
  clear hk4
  generalize w3.setRow (w.heap.size) (thZ) = w4 at *
  go_wp2_with (
   refine wpList_store_row rfl 63 _ _ rfl n5 (akZ) rfl rfl 63 akZ H5.out infoAk rfl (akZ_one) ?_
   have hk5 := kept_rowT (w := w4) (g := n5) (akZ)
   replace HG := Lib.hid (HG.out.kept hk5 (fun (e : w.heap.size = n5) => by omega))
   replace HE := Lib.hid (HE.out.kept hk5 (fun (e : w.heap.size + 1 = n5) => by omega))
   replace H4 := Lib.hid (H4.out.kept hk5 (fun (e : w.heap.size + 1 + 1 = n5) => by omega))
   replace H5 := Lib.hid (lies_row H5.out (akZ))
   replace HB := Lib.hid (HB.out.trans (hk5.below HB.out.size (fun k hk (e : k = n5) => by omega)))
   clear hk5
   generalize w4.setRow n5 (akZ) = wq at *
   go_wp2_with (
    refine wpList_store_row rfl 73 _ _ rfl (w.heap.size + 1 + 1) thZ rfl rfl 73 thZ H4.out infoTh rfl thZ_one ?_
    have hk9 := kept_rowT (w := wq) (g := w.heap.size + 1 + 1) thZ
    have HBZ := Lib.hid (HB.out.trans (hk9.below HB.out.size (fun k hk (e : k = w.heap.size + 1 + 1) => by omega)))
    have Q4 := Lib.hid (lies_row H4.out thZ)
    clear hk9
    generalize wq.setRow (w.heap.size + 1 + 1) thZ = wE at *
    clear HB H4 HG HE
    have z0 := (Q4.out.cell 0).trans (show _ = some (.int .i64 0) from rfl)
    have z1 := (Q4.out.cell 1).trans (show _ = some (.int .i64 0) from rfl)
    have z2 := (Q4.out.cell 2).trans (show _ = some (.int .i64 0) from rfl)
    have z3 := (Q4.out.cell 3).trans (show _ = some (.int .i64 0) from rfl)
    have z4 := (Q4.out.cell 4).trans (show _ = some (.int .u64 0) from rfl)
    have z5 := (Q4.out.cell 5).trans (show _ = some (.int .u64 0) from rfl)
    have z6 := (Q4.out.cell 6).trans (show _ = some (.int .u64 0) from rfl)
    have z7 := (Q4.out.cell 7).trans (show _ = some (.int .u64 0) from rfl)
    have z8 := (Q4.out.cell 8).trans (show _ = some (.int .u64 0) from rfl)
    have z9 := (Q4.out.cell 9).trans (show _ = some (.int .u64 0) from rfl)
    have z10 := (Q4.out.cell 10).trans (show _ = some (.int .u64 0) from rfl)
    have z11 := (Q4.out.cell 11).trans (show _ = some (.int .u64 0) from rfl)
    have z12 := (Q4.out.cell 12).trans (show _ = some (.int .u64 0) from rfl)
    have z13 := (Q4.out.cell 13).trans (show _ = some (.slice none 0 0) from rfl)
    go_wp2
    exact bodyPost_ret (v := .tuple #[.agg thZ, .int .i64 1]) (by simp [results, Tryz.results73, go_sem, z0, z1, z2, z3, z4, z5, z6, z7, z8, z9, z10, z11, z12, z13]) rfl ⟨rfl, HBZ.out⟩)))
set_option maxHeartbeats 8000000 in
set_option maxRecDepth 100000 in
theorem do16form (l : List In) (A : Option Addr) (c : Nat) (x : Th) (S : Option Addr) (cs : Nat) (e : Ev) (v : Nat) (w : World) (h : InsAt w A c l) (hok : ∀ i ∈ l, inOk i) (hx : thOk x) (hs : SeqS w 1 (.slice S x.sn.length cs) x.sn.length (cells64 x.sn)) (hl : x.sn.length ≤ 1000000) (hr : thB l x = true) (hre : rightE e = false) :
  Calls Tryz.prog 73 #[.slice A l.length c, .agg (thC x (.slice S x.sn.length cs)), .agg (evC e), .int .u64 (v : Int)] w fun q w' => q = .returned (.tuple #[.agg thZ, .int .i64 3]) ∧ Below w.heap.size w w' := by
 obtain ⟨hc1, hc2⟩ := seq_form h
 have hb3 : Below w.heap.size w (((w.alloc (.cells (thC x (.slice S x.sn.length cs)) 73)).alloc (.cells (evC e) 43)).alloc (.cells thZ 73)) := (((Below.refl _ _).alloc (Nat.le_refl _) _).alloc (by simp) _).alloc (by simp; omega) _
 have l1 := ((Lies.made w 73 (thC x (.slice S x.sn.length cs))).alloc (.cells (evC e) 43)).alloc (.cells thZ 73)
 have l2 := (Lies.made (w.alloc (.cells (thC x (.slice S x.sn.length cs)) 73)) 43 (evC e)).alloc (.cells thZ 73)
 have l3 := Lies.made ((w.alloc (.cells (thC x (.slice S x.sn.length cs)) 73)).alloc (.cells (evC e) 43)) 73 thZ
 rw [show (w.alloc (.cells (thC x (.slice S x.sn.length cs)) 73)).heap.size = w.heap.size + 1 by simp] at l2
 rw [show ((w.alloc (.cells (thC x (.slice S x.sn.length cs)) 73)).alloc (.cells (evC e) 43)).heap.size = w.heap.size + 1 + 1 by simp] at l3
 have HB := Lib.hid hb3
 have HG := Lib.hid l1
 have HE := Lib.hid l2
 have H4 := Lib.hid l3
 have HH := Lib.hid (fun (q : World) (hq : Below w.heap.size w q) => h.later hq)
 clear hb3 l1 l2 l3
 have hnf := nxT_facts hr hx hok
 have HNX := Lib.hid (fun q hq hs => next16 l A c x S cs q hq hok hx hs hl hr)
 have HSQ := Lib.hid (fun (q : World) (hq : Below w.heap.size w q) => hs.later hq)
 have HRI := Lib.hid (fun q => right15 e q)
 rw [hre] at HRI
 clear hre
 obtain ⟨n, hn⟩ : ∃ n, x.sn.length = n := ⟨_, rfl⟩
 have HNE : Hid ((nxT l x).sn.length = n) := by show _ = _; rw [hnf.2.2, hn]
 have HSE : Hid (cells64 x.sn = cells64 (nxT l x).sn) := by show _ = _; rw [hnf.2.2]
 have HIV := Lib.hid hnf.1
 have HCD := Lib.hid (thB_parts hr).1
 have hlen := (codeB_parts HCD.out).1
 have HOK := Lib.hid hok
 have hn6 : n ≤ 1000000 := by omega
 have HNN := Lib.hid hn
 clear h hs hl hr hx hok hnf hn
 go_enter Tryz.func73, Tryz.ntmps73
 go_upto_region 1 with (fail)
 generalize (((w.alloc (.cells (thC x (.slice S x.sn.length cs)) 73)).alloc (.cells (evC e) 43)).alloc (.cells thZ 73)) = w1 at *
 have c0 := (HG.out.cell 0).trans (show _ = some (Value.int .i64 x.at_) from rfl)
 have c1 := (HG.out.cell 1).trans (show _ = some (Value.int .i64 x.ph) from rfl)
 have c2 := (HG.out.cell 2).trans (show _ = some (Value.int .i64 x.rg) from rfl)
 have c3 := (HG.out.cell 3).trans (show _ = some (Value.int .i64 x.st) from rfl)
 have c4 := (HG.out.cell 4).trans (show _ = some (Value.int .u64 (x.tk : Int)) from rfl)
 have c5 := (HG.out.cell 5).trans (show _ = some (Value.int .u64 (x.r 0 : Int)) from rfl)
 have c6 := (HG.out.cell 6).trans (show _ = some (Value.int .u64 (x.r 1 : Int)) from rfl)
 have c7 := (HG.out.cell 7).trans (show _ = some (Value.int .u64 (x.r 2 : Int)) from rfl)
 have c8 := (HG.out.cell 8).trans (show _ = some (Value.int .u64 (x.r 3 : Int)) from rfl)
 have c9 := (HG.out.cell 9).trans (show _ = some (Value.int .u64 (x.r 4 : Int)) from rfl)
 have c10 := (HG.out.cell 10).trans (show _ = some (Value.int .u64 (x.r 5 : Int)) from rfl)
 have c11 := (HG.out.cell 11).trans (show _ = some (Value.int .u64 (x.r 6 : Int)) from rfl)
 have c12 := (HG.out.cell 12).trans (show _ = some (Value.int .u64 (x.r 7 : Int)) from rfl)
 have c13 := (HG.out.cell 13).trans (show _ = some ((.slice S x.sn.length cs)) from rfl)
 have cl := HG.out.lt
 go_wp2_with fail
 refine (HNX.out _ (HH.out _ HB.out) (HSQ.out _ HB.out)).mono ?_
 rintro e1 w2 ⟨A', c', rfl, ho, hbm⟩
 have HN2 : Hid (w.heap.size + 1 + 1 < w2.heap.size) := Nat.lt_of_lt_of_le H4.out.lt hbm.size
 have HO0 := owns_mono ho HB.out.size
 rw [HSE.out] at HO0
 rw [HNN.out] at HO0 ⊢
 have HO := Lib.hid HO0
 replace HG := Lib.hid (HG.out.below hbm HG.out.lt)
 replace HE := Lib.hid (HE.out.below hbm HE.out.lt)
 replace H4 := Lib.hid (H4.out.below hbm H4.out.lt)
 replace HB := Lib.hid (HB.out.trans (hbm.mono HB.out.size))
 clear hbm HNX HSQ ho HO0 HSE
 generalize hyy : nxT l x = y at *
 have HYE := Lib.hid hyy
 clear hyy
 generalize hzz : reqA l y = z at *
 have HZE := Lib.hid hzz
 clear hzz
 clear c0 c1 c2 c3 c4 c5 c6 c7 c8 c9 c10 c11 c12 c13 cl
 have hba := (Below.refl w2.heap.size w2).alloc (Nat.le_refl _) (.cells akZ 63)
 have H5 := Lib.hid (Lies.made w2 63 akZ)
 replace HG := Lib.hid (HG.out.below hba HG.out.lt)
 replace HE := Lib.hid (HE.out.below hba HE.out.lt)
 replace H4 := Lib.hid (H4.out.below hba H4.out.lt)
 replace HB := Lib.hid (HB.out.trans (hba.mono HB.out.size))
 replace HO := Lib.hid (owned_below HO.out hba)
 have hn5 : w.heap.size + 1 + 1 < w2.heap.size := HN2.out
 clear hba HN2
 generalize hw3 : w2.alloc (.cells akZ 63) = w3 at *
 generalize hn5e : w2.heap.size = n5 at *
 go_wp2_with (
  refine wpList_store_row rfl 73 _ _ rfl (w.heap.size) (thC y (.slice A' n c')) rfl rfl 73 (thC x (.slice S x.sn.length cs)) HG.out infoTh rfl (thC_one _ rfl) ?_
  try clear hw3
  have hk4 := kept_rowT (w := w3) (g := w.heap.size) (thC y (.slice A' n c'))
  replace HO := Lib.hid (owns_kept HO.out hk4 (fun r cur hr hl (e : r = w.heap.size) => by subst e; exact absurd (hl.same HG.out).1 (by decide)))
  replace HG := Lib.hid (lies_row HG.out (thC y (.slice A' n c')))
  replace HE := Lib.hid (HE.out.kept hk4 (fun (e : w.heap.size + 1 = w.heap.size) => by omega))
  replace H4 := Lib.hid (H4.out.kept hk4 (fun (e : w.heap.size + 1 + 1 = w.heap.size) => by omega))
  replace H5 := Lib.hid (H5.out.kept hk4 (fun (e : n5 = w.heap.size) => by omega))
  replace HB := Lib.hid (HB.out.trans (hk4.below HB.out.size (fun k hk (e : k = w.heap.size) => by omega)))
  clear hk4
  generalize w3.setRow (w.heap.size) (thC y (.slice A' n c')) = w4 at *
  go_wp2_with (
   refine wpList_store_row rfl 63 _ _ rfl n5 (akC z) rfl rfl 63 akZ H5.out infoAk rfl (akC_one _) ?_
   have hk5 := kept_rowT (w := w4) (g := n5) (akC z)
   replace HO := Lib.hid (owns_kept HO.out hk5 (fun r cur hr hl (e : r = n5) => by subst e; exact absurd (hl.same H5.out).1 (by decide)))
   replace HG := Lib.hid (HG.out.kept hk5 (fun (e : w.heap.size = n5) => by omega))
   replace HE := Lib.hid (HE.out.kept hk5 (fun (e : w.heap.size + 1 = n5) => by omega))
   replace H4 := Lib.hid (H4.out.kept hk5 (fun (e : w.heap.size + 1 + 1 = n5) => by omega))
   replace H5 := Lib.hid (lies_row H5.out (akC z))
   replace HB := Lib.hid (HB.out.trans (hk5.below HB.out.size (fun k hk (e : k = n5) => by omega)))
   clear hk5
   generalize w4.setRow n5 (akC z) = wq at *
   have q0 := (HE.out.cell 0).trans (show _ = some (Value.int .i64 e.th) from rfl)
   have q1 := (HE.out.cell 1).trans (show _ = some (Value.int .i64 e.kd) from rfl)
   have q2 := (HE.out.cell 2).trans (show _ = some (Value.int .i64 e.rg) from rfl)
   have q3 := (HE.out.cell 3).trans (show _ = some (Value.int .u64 (e.tk : Int)) from rfl)
   have q4 := (HE.out.cell 4).trans (show _ = some (Value.int .u64 (e.vl : Int)) from rfl)
   have ql := HE.out.lt
   go_wp2_with fail
   refine (HRI.out _).mono ?_
   rintro e1 w5 ⟨rfl, hbm⟩
   clear q0 q1 q2 q3 q4 ql
   replace H5 := Lib.hid (H5.out.below hbm H5.out.lt)
   replace HO := Lib.hid (owned_below HO.out hbm)
   replace HG := Lib.hid (HG.out.below hbm HG.out.lt)
   replace HE := Lib.hid (HE.out.below hbm HE.out.lt)
   replace H4 := Lib.hid (H4.out.below hbm H4.out.lt)
   replace HB := Lib.hid (HB.out.trans (hbm.mono HB.out.size))
   clear hbm HRI
   generalize w5 = wq at *
   go_wp2_with (
    refine wpList_store_row rfl 73 _ _ rfl (w.heap.size + 1 + 1) thZ rfl rfl 73 thZ H4.out infoTh rfl thZ_one ?_
    have hk9 := kept_rowT (w := wq) (g := w.heap.size + 1 + 1) thZ
    have HBZ := Lib.hid (HB.out.trans (hk9.below HB.out.size (fun k hk (e : k = w.heap.size + 1 + 1) => by omega)))
    have Q4 := Lib.hid (lies_row H4.out thZ)
    clear hk9
    generalize wq.setRow (w.heap.size + 1 + 1) thZ = wE at *
    clear HB H4 HG HE
    have z0 := (Q4.out.cell 0).trans (show _ = some (.int .i64 0) from rfl)
    have z1 := (Q4.out.cell 1).trans (show _ = some (.int .i64 0) from rfl)
    have z2 := (Q4.out.cell 2).trans (show _ = some (.int .i64 0) from rfl)
    have z3 := (Q4.out.cell 3).trans (show _ = some (.int .i64 0) from rfl)
    have z4 := (Q4.out.cell 4).trans (show _ = some (.int .u64 0) from rfl)
    have z5 := (Q4.out.cell 5).trans (show _ = some (.int .u64 0) from rfl)
    have z6 := (Q4.out.cell 6).trans (show _ = some (.int .u64 0) from rfl)
    have z7 := (Q4.out.cell 7).trans (show _ = some (.int .u64 0) from rfl)
    have z8 := (Q4.out.cell 8).trans (show _ = some (.int .u64 0) from rfl)
    have z9 := (Q4.out.cell 9).trans (show _ = some (.int .u64 0) from rfl)
    have z10 := (Q4.out.cell 10).trans (show _ = some (.int .u64 0) from rfl)
    have z11 := (Q4.out.cell 11).trans (show _ = some (.int .u64 0) from rfl)
    have z12 := (Q4.out.cell 12).trans (show _ = some (.int .u64 0) from rfl)
    have z13 := (Q4.out.cell 13).trans (show _ = some (.slice none 0 0) from rfl)
    go_wp2
    exact bodyPost_ret (v := .tuple #[.agg thZ, .int .i64 3]) (by simp [results, Tryz.results73, go_sem, z0, z1, z2, z3, z4, z5, z6, z7, z8, z9, z10, z11, z12, z13]) rfl ⟨rfl, HBZ.out⟩)))
set_option maxHeartbeats 8000000 in
set_option maxRecDepth 100000 in
theorem do16order (l : List In) (A : Option Addr) (c : Nat) (x : Th) (S : Option Addr) (cs : Nat) (e : Ev) (v : Nat) (w : World) (h : InsAt w A c l) (hok : ∀ i ∈ l, inOk i) (hx : thOk x) (hs : SeqS w 1 (.slice S x.sn.length cs) x.sn.length (cells64 x.sn)) (hl : x.sn.length ≤ 1000000) (hr : thB l x = true) (hre : rightE e = true) (hf : fitB (reqA l (nxT l x)) e = false) :
  Calls Tryz.prog 73 #[.slice A l.length c, .agg (thC x (.slice S x.sn.length cs)), .agg (evC e), .int .u64 (v : Int)] w fun q w' => q = .returned (.tuple #[.agg thZ, .int .i64 11]) ∧ Below w.heap.size w w' := by
 obtain ⟨hc1, hc2⟩ := seq_form h
 have hb3 : Below w.heap.size w (((w.alloc (.cells (thC x (.slice S x.sn.length cs)) 73)).alloc (.cells (evC e) 43)).alloc (.cells thZ 73)) := (((Below.refl _ _).alloc (Nat.le_refl _) _).alloc (by simp) _).alloc (by simp; omega) _
 have l1 := ((Lies.made w 73 (thC x (.slice S x.sn.length cs))).alloc (.cells (evC e) 43)).alloc (.cells thZ 73)
 have l2 := (Lies.made (w.alloc (.cells (thC x (.slice S x.sn.length cs)) 73)) 43 (evC e)).alloc (.cells thZ 73)
 have l3 := Lies.made ((w.alloc (.cells (thC x (.slice S x.sn.length cs)) 73)).alloc (.cells (evC e) 43)) 73 thZ
 rw [show (w.alloc (.cells (thC x (.slice S x.sn.length cs)) 73)).heap.size = w.heap.size + 1 by simp] at l2
 rw [show ((w.alloc (.cells (thC x (.slice S x.sn.length cs)) 73)).alloc (.cells (evC e) 43)).heap.size = w.heap.size + 1 + 1 by simp] at l3
 have HB := Lib.hid hb3
 have HG := Lib.hid l1
 have HE := Lib.hid l2
 have H4 := Lib.hid l3
 have HH := Lib.hid (fun (q : World) (hq : Below w.heap.size w q) => h.later hq)
 clear hb3 l1 l2 l3
 have hnf := nxT_facts hr hx hok
 have HNX := Lib.hid (fun q hq hs => next16 l A c x S cs q hq hok hx hs hl hr)
 have HSQ := Lib.hid (fun (q : World) (hq : Below w.heap.size w q) => hs.later hq)
 have HRI := Lib.hid (fun q => right15 e q)
 rw [hre] at HRI
 have HMT := Lib.hid (fun q => matches16 (reqA l (nxT l x)) e q)
 rw [hf] at HMT
 clear hre hf
 obtain ⟨n, hn⟩ : ∃ n, x.sn.length = n := ⟨_, rfl⟩
 have HNE : Hid ((nxT l x).sn.length = n) := by show _ = _; rw [hnf.2.2, hn]
 have HSE : Hid (cells64 x.sn = cells64 (nxT l x).sn) := by show _ = _; rw [hnf.2.2]
 have HIV := Lib.hid hnf.1
 have HCD := Lib.hid (thB_parts hr).1
 have hlen := (codeB_parts HCD.out).1
 have HOK := Lib.hid hok
 have hn6 : n ≤ 1000000 := by omega
 have HNN := Lib.hid hn
 clear h hs hl hr hx hok hnf hn
 go_enter Tryz.func73, Tryz.ntmps73
 go_upto_region 1 with (fail)
 generalize (((w.alloc (.cells (thC x (.slice S x.sn.length cs)) 73)).alloc (.cells (evC e) 43)).alloc (.cells thZ 73)) = w1 at *
 have c0 := (HG.out.cell 0).trans (show _ = some (Value.int .i64 x.at_) from rfl)
 have c1 := (HG.out.cell 1).trans (show _ = some (Value.int .i64 x.ph) from rfl)
 have c2 := (HG.out.cell 2).trans (show _ = some (Value.int .i64 x.rg) from rfl)
 have c3 := (HG.out.cell 3).trans (show _ = some (Value.int .i64 x.st) from rfl)
 have c4 := (HG.out.cell 4).trans (show _ = some (Value.int .u64 (x.tk : Int)) from rfl)
 have c5 := (HG.out.cell 5).trans (show _ = some (Value.int .u64 (x.r 0 : Int)) from rfl)
 have c6 := (HG.out.cell 6).trans (show _ = some (Value.int .u64 (x.r 1 : Int)) from rfl)
 have c7 := (HG.out.cell 7).trans (show _ = some (Value.int .u64 (x.r 2 : Int)) from rfl)
 have c8 := (HG.out.cell 8).trans (show _ = some (Value.int .u64 (x.r 3 : Int)) from rfl)
 have c9 := (HG.out.cell 9).trans (show _ = some (Value.int .u64 (x.r 4 : Int)) from rfl)
 have c10 := (HG.out.cell 10).trans (show _ = some (Value.int .u64 (x.r 5 : Int)) from rfl)
 have c11 := (HG.out.cell 11).trans (show _ = some (Value.int .u64 (x.r 6 : Int)) from rfl)
 have c12 := (HG.out.cell 12).trans (show _ = some (Value.int .u64 (x.r 7 : Int)) from rfl)
 have c13 := (HG.out.cell 13).trans (show _ = some ((.slice S x.sn.length cs)) from rfl)
 have cl := HG.out.lt
 go_wp2_with fail
 refine (HNX.out _ (HH.out _ HB.out) (HSQ.out _ HB.out)).mono ?_
 rintro e1 w2 ⟨A', c', rfl, ho, hbm⟩
 have HN2 : Hid (w.heap.size + 1 + 1 < w2.heap.size) := Nat.lt_of_lt_of_le H4.out.lt hbm.size
 have HO0 := owns_mono ho HB.out.size
 rw [HSE.out] at HO0
 rw [HNN.out] at HO0 ⊢
 have HO := Lib.hid HO0
 replace HG := Lib.hid (HG.out.below hbm HG.out.lt)
 replace HE := Lib.hid (HE.out.below hbm HE.out.lt)
 replace H4 := Lib.hid (H4.out.below hbm H4.out.lt)
 replace HB := Lib.hid (HB.out.trans (hbm.mono HB.out.size))
 clear hbm HNX HSQ ho HO0 HSE
 generalize hyy : nxT l x = y at *
 have HYE := Lib.hid hyy
 clear hyy
 generalize hzz : reqA l y = z at *
 have HZE := Lib.hid hzz
 clear hzz
 clear c0 c1 c2 c3 c4 c5 c6 c7 c8 c9 c10 c11 c12 c13 cl
 have hba := (Below.refl w2.heap.size w2).alloc (Nat.le_refl _) (.cells akZ 63)
 have H5 := Lib.hid (Lies.made w2 63 akZ)
 replace HG := Lib.hid (HG.out.below hba HG.out.lt)
 replace HE := Lib.hid (HE.out.below hba HE.out.lt)
 replace H4 := Lib.hid (H4.out.below hba H4.out.lt)
 replace HB := Lib.hid (HB.out.trans (hba.mono HB.out.size))
 replace HO := Lib.hid (owned_below HO.out hba)
 have hn5 : w.heap.size + 1 + 1 < w2.heap.size := HN2.out
 clear hba HN2
 generalize hw3 : w2.alloc (.cells akZ 63) = w3 at *
 generalize hn5e : w2.heap.size = n5 at *
 go_wp2_with (
  refine wpList_store_row rfl 73 _ _ rfl (w.heap.size) (thC y (.slice A' n c')) rfl rfl 73 (thC x (.slice S x.sn.length cs)) HG.out infoTh rfl (thC_one _ rfl) ?_
  try clear hw3
  have hk4 := kept_rowT (w := w3) (g := w.heap.size) (thC y (.slice A' n c'))
  replace HO := Lib.hid (owns_kept HO.out hk4 (fun r cur hr hl (e : r = w.heap.size) => by subst e; exact absurd (hl.same HG.out).1 (by decide)))
  replace HG := Lib.hid (lies_row HG.out (thC y (.slice A' n c')))
  replace HE := Lib.hid (HE.out.kept hk4 (fun (e : w.heap.size + 1 = w.heap.size) => by omega))
  replace H4 := Lib.hid (H4.out.kept hk4 (fun (e : w.heap.size + 1 + 1 = w.heap.size) => by omega))
  replace H5 := Lib.hid (H5.out.kept hk4 (fun (e : n5 = w.heap.size) => by omega))
  replace HB := Lib.hid (HB.out.trans (hk4.below HB.out.size (fun k hk (e : k = w.heap.size) => by omega)))
  clear hk4
  generalize w3.setRow (w.heap.size) (thC y (.slice A' n c')) = w4 at *
  go_wp2_with (
   refine wpList_store_row rfl 63 _ _ rfl n5 (akC z) rfl rfl 63 akZ H5.out infoAk rfl (akC_one _) ?_
   have hk5 := kept_rowT (w := w4) (g := n5) (akC z)
   replace HO := Lib.hid (owns_kept HO.out hk5 (fun r cur hr hl (e : r = n5) => by subst e; exact absurd (hl.same H5.out).1 (by decide)))
   replace HG := Lib.hid (HG.out.kept hk5 (fun (e : w.heap.size = n5) => by omega))
   replace HE := Lib.hid (HE.out.kept hk5 (fun (e : w.heap.size + 1 = n5) => by omega))
   replace H4 := Lib.hid (H4.out.kept hk5 (fun (e : w.heap.size + 1 + 1 = n5) => by omega))
   replace H5 := Lib.hid (lies_row H5.out (akC z))
   replace HB := Lib.hid (HB.out.trans (hk5.below HB.out.size (fun k hk (e : k = n5) => by omega)))
   clear hk5
   generalize w4.setRow n5 (akC z) = wq at *
   have q0 := (HE.out.cell 0).trans (show _ = some (Value.int .i64 e.th) from rfl)
   have q1 := (HE.out.cell 1).trans (show _ = some (Value.int .i64 e.kd) from rfl)
   have q2 := (HE.out.cell 2).trans (show _ = some (Value.int .i64 e.rg) from rfl)
   have q3 := (HE.out.cell 3).trans (show _ = some (Value.int .u64 (e.tk : Int)) from rfl)
   have q4 := (HE.out.cell 4).trans (show _ = some (Value.int .u64 (e.vl : Int)) from rfl)
   have ql := HE.out.lt
   go_wp2_with fail
   refine (HRI.out _).mono ?_
   rintro e1 w5 ⟨rfl, hbm⟩
   clear q0 q1 q2 q3 q4 ql
   replace H5 := Lib.hid (H5.out.below hbm H5.out.lt)
   replace HO := Lib.hid (owned_below HO.out hbm)
   replace HG := Lib.hid (HG.out.below hbm HG.out.lt)
   replace HE := Lib.hid (HE.out.below hbm HE.out.lt)
   replace H4 := Lib.hid (H4.out.below hbm H4.out.lt)
   replace HB := Lib.hid (HB.out.trans (hbm.mono HB.out.size))
   clear hbm HRI
   clear wq
   have q0 := (HE.out.cell 0).trans (show _ = some (Value.int .i64 e.th) from rfl)
   have q1 := (HE.out.cell 1).trans (show _ = some (Value.int .i64 e.kd) from rfl)
   have q2 := (HE.out.cell 2).trans (show _ = some (Value.int .i64 e.rg) from rfl)
   have q3 := (HE.out.cell 3).trans (show _ = some (Value.int .u64 (e.tk : Int)) from rfl)
   have q4 := (HE.out.cell 4).trans (show _ = some (Value.int .u64 (e.vl : Int)) from rfl)
   have ql := HE.out.lt
   have k0 := (H5.out.cell 0).trans (show _ = some (.int .i64 z.kd) from rfl)
   have k1 := (H5.out.cell 1).trans (show _ = some (.int .i64 z.rg) from rfl)
   have k2 := (H5.out.cell 2).trans (show _ = some (.int .i64 z.md) from rfl)
   have k3 := (H5.out.cell 3).trans (show _ = some (.int .i64 z.rd) from rfl)
   have k4 := (H5.out.cell 4).trans (show _ = some (.int .u64 (z.tk : Int)) from rfl)
   have k5 := (H5.out.cell 5).trans (show _ = some (.int .u64 (z.vl : Int)) from rfl)
   have kl := H5.out.lt
   go_wp2_with fail
   refine (HMT.out _).mono ?_
   rintro e1 wq ⟨rfl, hbm⟩
   clear q0 q1 q2 q3 q4 ql
   clear k0 k1 k2 k3 k4 k5 kl
   replace HO := Lib.hid (owned_below HO.out hbm)
   replace HG := Lib.hid (HG.out.below hbm HG.out.lt)
   replace HE := Lib.hid (HE.out.below hbm HE.out.lt)
   replace H4 := Lib.hid (H4.out.below hbm H4.out.lt)
   replace HB := Lib.hid (HB.out.trans (hbm.mono HB.out.size))
   clear hbm HMT H5 w5
   go_wp2_with (
    refine wpList_store_row rfl 73 _ _ rfl (w.heap.size + 1 + 1) thZ rfl rfl 73 thZ H4.out infoTh rfl thZ_one ?_
    have hk9 := kept_rowT (w := wq) (g := w.heap.size + 1 + 1) thZ
    have HBZ := Lib.hid (HB.out.trans (hk9.below HB.out.size (fun k hk (e : k = w.heap.size + 1 + 1) => by omega)))
    have Q4 := Lib.hid (lies_row H4.out thZ)
    clear hk9
    generalize wq.setRow (w.heap.size + 1 + 1) thZ = wE at *
    clear HB H4 HG HE
    have z0 := (Q4.out.cell 0).trans (show _ = some (.int .i64 0) from rfl)
    have z1 := (Q4.out.cell 1).trans (show _ = some (.int .i64 0) from rfl)
    have z2 := (Q4.out.cell 2).trans (show _ = some (.int .i64 0) from rfl)
    have z3 := (Q4.out.cell 3).trans (show _ = some (.int .i64 0) from rfl)
    have z4 := (Q4.out.cell 4).trans (show _ = some (.int .u64 0) from rfl)
    have z5 := (Q4.out.cell 5).trans (show _ = some (.int .u64 0) from rfl)
    have z6 := (Q4.out.cell 6).trans (show _ = some (.int .u64 0) from rfl)
    have z7 := (Q4.out.cell 7).trans (show _ = some (.int .u64 0) from rfl)
    have z8 := (Q4.out.cell 8).trans (show _ = some (.int .u64 0) from rfl)
    have z9 := (Q4.out.cell 9).trans (show _ = some (.int .u64 0) from rfl)
    have z10 := (Q4.out.cell 10).trans (show _ = some (.int .u64 0) from rfl)
    have z11 := (Q4.out.cell 11).trans (show _ = some (.int .u64 0) from rfl)
    have z12 := (Q4.out.cell 12).trans (show _ = some (.int .u64 0) from rfl)
    have z13 := (Q4.out.cell 13).trans (show _ = some (.slice none 0 0) from rfl)
    go_wp2
    exact bodyPost_ret (v := .tuple #[.agg thZ, .int .i64 11]) (by simp [results, Tryz.results73, go_sem, z0, z1, z2, z3, z4, z5, z6, z7, z8, z9, z10, z11, z12, z13]) rfl ⟨rfl, HBZ.out⟩)))
set_option maxHeartbeats 8000000 in
set_option maxRecDepth 100000 in
theorem do16k14 (l : List In) (A : Option Addr) (c : Nat) (x : Th) (S : Option Addr) (cs : Nat) (e : Ev) (v : Nat) (w : World) (h : InsAt w A c l) (hok : ∀ i ∈ l, inOk i) (hx : thOk x) (hs : SeqS w 1 (.slice S x.sn.length cs) x.sn.length (cells64 x.sn)) (hl : x.sn.length ≤ 1000000) (hr : thB l x = true) (hre : rightE e = true) (hf : fitB (reqA l (nxT l x)) e = true) (hk : e.kd = 14) :
  Calls Tryz.prog 73 #[.slice A l.length c, .agg (thC x (.slice S x.sn.length cs)), .agg (evC e), .int .u64 (v : Int)] w fun q w' => ∃ A' c', q = .returned (.tuple #[.agg (thC (behT (atT l (nxT l x)) (nxT l x) e v) (.slice A' (behT (atT l (nxT l x)) (nxT l x) e v).sn.length c')), .int .i64 0]) ∧ w'.ownsRow w.heap.size 37 1 (.slice A' (behT (atT l (nxT l x)) (nxT l x) e v).sn.length c') (behT (atT l (nxT l x)) (nxT l x) e v).sn.length (cells64 (behT (atT l (nxT l x)) (nxT l x) e v).sn) ∧ Below w.heap.size w w' := by
 obtain ⟨hc1, hc2⟩ := seq_form h
 have hb3 : Below w.heap.size w (((w.alloc (.cells (thC x (.slice S x.sn.length cs)) 73)).alloc (.cells (evC e) 43)).alloc (.cells thZ 73)) := (((Below.refl _ _).alloc (Nat.le_refl _) _).alloc (by simp) _).alloc (by simp; omega) _
 have l1 := ((Lies.made w 73 (thC x (.slice S x.sn.length cs))).alloc (.cells (evC e) 43)).alloc (.cells thZ 73)
 have l2 := (Lies.made (w.alloc (.cells (thC x (.slice S x.sn.length cs)) 73)) 43 (evC e)).alloc (.cells thZ 73)
 have l3 := Lies.made ((w.alloc (.cells (thC x (.slice S x.sn.length cs)) 73)).alloc (.cells (evC e) 43)) 73 thZ
 rw [show (w.alloc (.cells (thC x (.slice S x.sn.length cs)) 73)).heap.size = w.heap.size + 1 by simp] at l2
 rw [show ((w.alloc (.cells (thC x (.slice S x.sn.length cs)) 73)).alloc (.cells (evC e) 43)).heap.size = w.heap.size + 1 + 1 by simp] at l3
 have HB := Lib.hid hb3
 have HG := Lib.hid l1
 have HE := Lib.hid l2
 have H4 := Lib.hid l3
 have HH := Lib.hid (fun (q : World) (hq : Below w.heap.size w q) => h.later hq)
 clear hb3 l1 l2 l3
 have hnf := nxT_facts hr hx hok
 have HNX := Lib.hid (fun q hq hs => next16 l A c x S cs q hq hok hx hs hl hr)
 have HSQ := Lib.hid (fun (q : World) (hq : Below w.heap.size w q) => hs.later hq)
 have HRI := Lib.hid (fun q => right15 e q)
 rw [hre] at HRI
 have HMT := Lib.hid (fun q => matches16 (reqA l (nxT l x)) e q)
 rw [hf] at HMT
 have HKD := Lib.hid hk
 clear hk
 clear hre hf
 obtain ⟨n, hn⟩ : ∃ n, x.sn.length = n := ⟨_, rfl⟩
 have HNE : Hid ((nxT l x).sn.length = n) := by show _ = _; rw [hnf.2.2, hn]
 have HSE : Hid (cells64 x.sn = cells64 (nxT l x).sn) := by show _ = _; rw [hnf.2.2]
 have HIV := Lib.hid hnf.1
 have HCD := Lib.hid (thB_parts hr).1
 have hlen := (codeB_parts HCD.out).1
 have HOK := Lib.hid hok
 have hn6 : n ≤ 1000000 := by omega
 have HNN := Lib.hid hn
 clear h hs hl hr hx hok hnf hn
 go_enter Tryz.func73, Tryz.ntmps73
 go_upto_region 1 with (fail)
 generalize (((w.alloc (.cells (thC x (.slice S x.sn.length cs)) 73)).alloc (.cells (evC e) 43)).alloc (.cells thZ 73)) = w1 at *
 have c0 := (HG.out.cell 0).trans (show _ = some (Value.int .i64 x.at_) from rfl)
 have c1 := (HG.out.cell 1).trans (show _ = some (Value.int .i64 x.ph) from rfl)
 have c2 := (HG.out.cell 2).trans (show _ = some (Value.int .i64 x.rg) from rfl)
 have c3 := (HG.out.cell 3).trans (show _ = some (Value.int .i64 x.st) from rfl)
 have c4 := (HG.out.cell 4).trans (show _ = some (Value.int .u64 (x.tk : Int)) from rfl)
 have c5 := (HG.out.cell 5).trans (show _ = some (Value.int .u64 (x.r 0 : Int)) from rfl)
 have c6 := (HG.out.cell 6).trans (show _ = some (Value.int .u64 (x.r 1 : Int)) from rfl)
 have c7 := (HG.out.cell 7).trans (show _ = some (Value.int .u64 (x.r 2 : Int)) from rfl)
 have c8 := (HG.out.cell 8).trans (show _ = some (Value.int .u64 (x.r 3 : Int)) from rfl)
 have c9 := (HG.out.cell 9).trans (show _ = some (Value.int .u64 (x.r 4 : Int)) from rfl)
 have c10 := (HG.out.cell 10).trans (show _ = some (Value.int .u64 (x.r 5 : Int)) from rfl)
 have c11 := (HG.out.cell 11).trans (show _ = some (Value.int .u64 (x.r 6 : Int)) from rfl)
 have c12 := (HG.out.cell 12).trans (show _ = some (Value.int .u64 (x.r 7 : Int)) from rfl)
 have c13 := (HG.out.cell 13).trans (show _ = some ((.slice S x.sn.length cs)) from rfl)
 have cl := HG.out.lt
 go_wp2_with fail
 refine (HNX.out _ (HH.out _ HB.out) (HSQ.out _ HB.out)).mono ?_
 rintro e1 w2 ⟨A', c', rfl, ho, hbm⟩
 have HN2 : Hid (w.heap.size + 1 + 1 < w2.heap.size) := Nat.lt_of_lt_of_le H4.out.lt hbm.size
 have HO0 := owns_mono ho HB.out.size
 rw [HSE.out] at HO0
 rw [HNN.out] at HO0 ⊢
 have HO := Lib.hid HO0
 replace HG := Lib.hid (HG.out.below hbm HG.out.lt)
 replace HE := Lib.hid (HE.out.below hbm HE.out.lt)
 replace H4 := Lib.hid (H4.out.below hbm H4.out.lt)
 replace HB := Lib.hid (HB.out.trans (hbm.mono HB.out.size))
 clear hbm HNX HSQ ho HO0 HSE
 generalize hyy : nxT l x = y at *
 have HYE := Lib.hid hyy
 clear hyy
 generalize hzz : reqA l y = z at *
 have HZE := Lib.hid hzz
 clear hzz
 clear c0 c1 c2 c3 c4 c5 c6 c7 c8 c9 c10 c11 c12 c13 cl
 have hba := (Below.refl w2.heap.size w2).alloc (Nat.le_refl _) (.cells akZ 63)
 have H5 := Lib.hid (Lies.made w2 63 akZ)
 replace HG := Lib.hid (HG.out.below hba HG.out.lt)
 replace HE := Lib.hid (HE.out.below hba HE.out.lt)
 replace H4 := Lib.hid (H4.out.below hba H4.out.lt)
 replace HB := Lib.hid (HB.out.trans (hba.mono HB.out.size))
 replace HO := Lib.hid (owned_below HO.out hba)
 have hn5 : w.heap.size + 1 + 1 < w2.heap.size := HN2.out
 clear hba HN2
 generalize hw3 : w2.alloc (.cells akZ 63) = w3 at *
 generalize hn5e : w2.heap.size = n5 at *
 go_wp2_with (
  refine wpList_store_row rfl 73 _ _ rfl (w.heap.size) (thC y (.slice A' n c')) rfl rfl 73 (thC x (.slice S x.sn.length cs)) HG.out infoTh rfl (thC_one _ rfl) ?_
  try clear hw3
  have hk4 := kept_rowT (w := w3) (g := w.heap.size) (thC y (.slice A' n c'))
  replace HO := Lib.hid (owns_kept HO.out hk4 (fun r cur hr hl (e : r = w.heap.size) => by subst e; exact absurd (hl.same HG.out).1 (by decide)))
  replace HG := Lib.hid (lies_row HG.out (thC y (.slice A' n c')))
  replace HE := Lib.hid (HE.out.kept hk4 (fun (e : w.heap.size + 1 = w.heap.size) => by omega))
  replace H4 := Lib.hid (H4.out.kept hk4 (fun (e : w.heap.size + 1 + 1 = w.heap.size) => by omega))
  replace H5 := Lib.hid (H5.out.kept hk4 (fun (e : n5 = w.heap.size) => by omega))
  replace HB := Lib.hid (HB.out.trans (hk4.below HB.out.size (fun k hk (e : k = w.heap.size) => by omega)))
  clear hk4
  generalize w3.setRow (w.heap.size) (thC y (.slice A' n c')) = w4 at *
  go_wp2_with (
   refine wpList_store_row rfl 63 _ _ rfl n5 (akC z) rfl rfl 63 akZ H5.out infoAk rfl (akC_one _) ?_
   have hk5 := kept_rowT (w := w4) (g := n5) (akC z)
   replace HO := Lib.hid (owns_kept HO.out hk5 (fun r cur hr hl (e : r = n5) => by subst e; exact absurd (hl.same H5.out).1 (by decide)))
   replace HG := Lib.hid (HG.out.kept hk5 (fun (e : w.heap.size = n5) => by omega))
   replace HE := Lib.hid (HE.out.kept hk5 (fun (e : w.heap.size + 1 = n5) => by omega))
   replace H4 := Lib.hid (H4.out.kept hk5 (fun (e : w.heap.size + 1 + 1 = n5) => by omega))
   replace H5 := Lib.hid (lies_row H5.out (akC z))
   replace HB := Lib.hid (HB.out.trans (hk5.below HB.out.size (fun k hk (e : k = n5) => by omega)))
   clear hk5
   generalize w4.setRow n5 (akC z) = wq at *
   have q0 := (HE.out.cell 0).trans (show _ = some (Value.int .i64 e.th) from rfl)
   have q1 := (HE.out.cell 1).trans (show _ = some (Value.int .i64 e.kd) from rfl)
   have q2 := (HE.out.cell 2).trans (show _ = some (Value.int .i64 e.rg) from rfl)
   have q3 := (HE.out.cell 3).trans (show _ = some (Value.int .u64 (e.tk : Int)) from rfl)
   have q4 := (HE.out.cell 4).trans (show _ = some (Value.int .u64 (e.vl : Int)) from rfl)
   have ql := HE.out.lt
   go_wp2_with fail
   refine (HRI.out _).mono ?_
   rintro e1 w5 ⟨rfl, hbm⟩
   clear q0 q1 q2 q3 q4 ql
   replace H5 := Lib.hid (H5.out.below hbm H5.out.lt)
   replace HO := Lib.hid (owned_below HO.out hbm)
   replace HG := Lib.hid (HG.out.below hbm HG.out.lt)
   replace HE := Lib.hid (HE.out.below hbm HE.out.lt)
   replace H4 := Lib.hid (H4.out.below hbm H4.out.lt)
   replace HB := Lib.hid (HB.out.trans (hbm.mono HB.out.size))
   clear hbm HRI
   clear wq
   have q0 := (HE.out.cell 0).trans (show _ = some (Value.int .i64 e.th) from rfl)
   have q1 := (HE.out.cell 1).trans (show _ = some (Value.int .i64 e.kd) from rfl)
   have q2 := (HE.out.cell 2).trans (show _ = some (Value.int .i64 e.rg) from rfl)
   have q3 := (HE.out.cell 3).trans (show _ = some (Value.int .u64 (e.tk : Int)) from rfl)
   have q4 := (HE.out.cell 4).trans (show _ = some (Value.int .u64 (e.vl : Int)) from rfl)
   have ql := HE.out.lt
   have k0 := (H5.out.cell 0).trans (show _ = some (.int .i64 z.kd) from rfl)
   have k1 := (H5.out.cell 1).trans (show _ = some (.int .i64 z.rg) from rfl)
   have k2 := (H5.out.cell 2).trans (show _ = some (.int .i64 z.md) from rfl)
   have k3 := (H5.out.cell 3).trans (show _ = some (.int .i64 z.rd) from rfl)
   have k4 := (H5.out.cell 4).trans (show _ = some (.int .u64 (z.tk : Int)) from rfl)
   have k5 := (H5.out.cell 5).trans (show _ = some (.int .u64 (z.vl : Int)) from rfl)
   have kl := H5.out.lt
   go_wp2_with fail
   refine (HMT.out _).mono ?_
   rintro e1 wq ⟨rfl, hbm⟩
   clear q0 q1 q2 q3 q4 ql
   clear k0 k1 k2 k3 k4 k5 kl
   replace HO := Lib.hid (owned_below HO.out hbm)
   replace HG := Lib.hid (HG.out.below hbm HG.out.lt)
   replace HE := Lib.hid (HE.out.below hbm HE.out.lt)
   replace H4 := Lib.hid (H4.out.below hbm H4.out.lt)
   replace HB := Lib.hid (HB.out.trans (hbm.mono HB.out.size))
   clear hbm HMT H5 w5
   have q0 := (HE.out.cell 0).trans (show _ = some (Value.int .i64 e.th) from rfl)
   have q1 := (HE.out.cell 1).trans (show _ = some (Value.int .i64 e.kd) from rfl)
   have q2 := (HE.out.cell 2).trans (show _ = some (Value.int .i64 e.rg) from rfl)
   have q3 := (HE.out.cell 3).trans (show _ = some (Value.int .u64 (e.tk : Int)) from rfl)
   have q4 := (HE.out.cell 4).trans (show _ = some (Value.int .u64 (e.vl : Int)) from rfl)
   have ql := HE.out.lt
   rw [HKD.out] at q1
   have c3 := (HG.out.cell 3).trans (show _ = some (.int .i64 y.st) from rfl)
   have cl := HG.out.lt
   have f3 := HG.out.free 3
   go_upto_region 18 with (fail)
   clear q0 q1 q2 q3 q4 ql
   clear c3 cl f3
   replace H4 := Lib.hid (H4.out.far (p := ⟨w.heap.size, 3, none⟩) (show w.heap.size + 1 + 1 ≠ w.heap.size by omega) (.int .i64 1))
   replace HO := Lib.hid (owns_put HO.out HG.out (by decide) 3 (.int .i64 1))
   replace HB := Lib.hid (HB.out.setCell (p := ⟨w.heap.size, 3, none⟩) (Nat.le_refl _) (.int .i64 1))
   replace HG := Lib.hid (show Lies (wq.setCell ⟨w.heap.size, 3, none⟩ (.int .i64 1)) (w.heap.size) 73 (thC ({ y with st := 1 } : Th) (.slice A' n c')) from HG.out.put 3 (.int .i64 1))
   generalize wq.setCell ⟨w.heap.size, 3, none⟩ (.int .i64 1) = w9 at *
   clear HE HIV HCD HOK
   have HBE : Hid (behT (atT l y) y e v = ({ y with st := 1 } : Th)) := by show _ = _; unfold behT; rw [HKD.out]; simp
   replace HO : Hid (World.ownsRow w9 w.heap.size 37 1 (.slice A' n c') n (cells64 (({ y with st := 1 } : Th)).sn)) := HO
   have HZN : Hid ((({ y with st := 1 } : Th)).sn.length = n) := HNE
   have c0 := (HG.out.cell 0).trans (show _ = some (Value.int .i64 ({ y with st := 1 } : Th).at_) from rfl)
   have c1 := (HG.out.cell 1).trans (show _ = some (Value.int .i64 ({ y with st := 1 } : Th).ph) from rfl)
   have c2 := (HG.out.cell 2).trans (show _ = some (Value.int .i64 ({ y with st := 1 } : Th).rg) from rfl)
   have c3 := (HG.out.cell 3).trans (show _ = some (Value.int .i64 ({ y with st := 1 } : Th).st) from rfl)
   have c4 := (HG.out.cell 4).trans (show _ = some (Value.int .u64 (({ y with st := 1 } : Th).tk : Int)) from rfl)
   have c5 := (HG.out.cell 5).trans (show _ = some (Value.int .u64 (({ y with st := 1 } : Th).r 0 : Int)) from rfl)
   have c6 := (HG.out.cell 6).trans (show _ = some (Value.int .u64 (({ y with st := 1 } : Th).r 1 : Int)) from rfl)
   have c7 := (HG.out.cell 7).trans (show _ = some (Value.int .u64 (({ y with st := 1 } : Th).r 2 : Int)) from rfl)
   have c8 := (HG.out.cell 8).trans (show _ = some (Value.int .u64 (({ y with st := 1 } : Th).r 3 : Int)) from rfl)
   have c9 := (HG.out.cell 9).trans (show _ = some (Value.int .u64 (({ y with st := 1 } : Th).r 4 : Int)) from rfl)
   have c10 := (HG.out.cell 10).trans (show _ = some (Value.int .u64 (({ y with st := 1 } : Th).r 5 : Int)) from rfl)
   have c11 := (HG.out.cell 11).trans (show _ = some (Value.int .u64 (({ y with st := 1 } : Th).r 6 : Int)) from rfl)
   have c12 := (HG.out.cell 12).trans (show _ = some (Value.int .u64 (({ y with st := 1 } : Th).r 7 : Int)) from rfl)
   have c13 := (HG.out.cell 13).trans (show _ = some ((.slice A' n c')) from rfl)
   have cl := HG.out.lt
   go_wp2_with (
    refine wpList_store_row rfl 73 _ _ rfl (w.heap.size + 1 + 1) (thC ({ y with st := 1 } : Th) (.slice A' n c')) rfl rfl 73 thZ H4.out infoTh rfl (thC_one _ rfl) ?_
    clear c0 c1 c2 c3 c4 c5 c6 c7 c8 c9 c10 c11 c12 c13 cl
    have hk9 := kept_rowT (w := w9) (g := w.heap.size + 1 + 1) (thC ({ y with st := 1 } : Th) (.slice A' n c'))
    have HBZ := Lib.hid (HB.out.trans (hk9.below HB.out.size (fun k hk (e : k = w.heap.size + 1 + 1) => by omega)))
    have Q4 := Lib.hid (lies_row H4.out (thC ({ y with st := 1 } : Th) (.slice A' n c')))
    have HOZ := Lib.hid (owns_kept HO.out hk9 (fun r cur hr hl (e : r = w.heap.size + 1 + 1) => by subst e; exact absurd (hl.same H4.out).1 (by decide)))
    clear hk9
    generalize w9.setRow (w.heap.size + 1 + 1) (thC ({ y with st := 1 } : Th) (.slice A' n c')) = wF at *
    clear HB H4 HG HO
    generalize hz9 : ({ y with st := 1 } : Th) = Z9 at *
    have z0 := (Q4.out.cell 0).trans (show _ = some (Value.int .i64 Z9.at_) from rfl)
    have z1 := (Q4.out.cell 1).trans (show _ = some (Value.int .i64 Z9.ph) from rfl)
    have z2 := (Q4.out.cell 2).trans (show _ = some (Value.int .i64 Z9.rg) from rfl)
    have z3 := (Q4.out.cell 3).trans (show _ = some (Value.int .i64 Z9.st) from rfl)
    have z4 := (Q4.out.cell 4).trans (show _ = some (Value.int .u64 (Z9.tk : Int)) from rfl)
    have z5 := (Q4.out.cell 5).trans (show _ = some (Value.int .u64 (Z9.r 0 : Int)) from rfl)
    have z6 := (Q4.out.cell 6).trans (show _ = some (Value.int .u64 (Z9.r 1 : Int)) from rfl)
    have z7 := (Q4.out.cell 7).trans (show _ = some (Value.int .u64 (Z9.r 2 : Int)) from rfl)
    have z8 := (Q4.out.cell 8).trans (show _ = some (Value.int .u64 (Z9.r 3 : Int)) from rfl)
    have z9 := (Q4.out.cell 9).trans (show _ = some (Value.int .u64 (Z9.r 4 : Int)) from rfl)
    have z10 := (Q4.out.cell 10).trans (show _ = some (Value.int .u64 (Z9.r 5 : Int)) from rfl)
    have z11 := (Q4.out.cell 11).trans (show _ = some (Value.int .u64 (Z9.r 6 : Int)) from rfl)
    have z12 := (Q4.out.cell 12).trans (show _ = some (Value.int .u64 (Z9.r 7 : Int)) from rfl)
    have z13 := (Q4.out.cell 13).trans (show _ = some ((.slice A' n c')) from rfl)
    have zl := Q4.out.lt
    go_wp2
    exact bodyPost_ret (v := .tuple #[.agg (thC Z9 (.slice A' n c')), .int .i64 0]) (by simp [results, Tryz.results73, go_sem, z0, z1, z2, z3, z4, z5, z6, z7, z8, z9, z10, z11, z12, z13]) rfl ⟨_, _, by rw [HYE.out, HBE.out, HZN.out], by rw [HYE.out, HBE.out, HZN.out]; exact HOZ.out, HBZ.out⟩)))
set_option maxHeartbeats 8000000 in
set_option maxRecDepth 100000 in
theorem do16k15 (l : List In) (A : Option Addr) (c : Nat) (x : Th) (S : Option Addr) (cs : Nat) (e : Ev) (v : Nat) (w : World) (h : InsAt w A c l) (hok : ∀ i ∈ l, inOk i) (hx : thOk x) (hs : SeqS w 1 (.slice S x.sn.length cs) x.sn.length (cells64 x.sn)) (hl : x.sn.length ≤ 1000000) (hr : thB l x = true) (hre : rightE e = true) (hf : fitB (reqA l (nxT l x)) e = true) (hk : e.kd = 15) :
  Calls Tryz.prog 73 #[.slice A l.length c, .agg (thC x (.slice S x.sn.length cs)), .agg (evC e), .int .u64 (v : Int)] w fun q w' => ∃ A' c', q = .returned (.tuple #[.agg (thC (behT (atT l (nxT l x)) (nxT l x) e v) (.slice A' (behT (atT l (nxT l x)) (nxT l x) e v).sn.length c')), .int .i64 0]) ∧ w'.ownsRow w.heap.size 37 1 (.slice A' (behT (atT l (nxT l x)) (nxT l x) e v).sn.length c') (behT (atT l (nxT l x)) (nxT l x) e v).sn.length (cells64 (behT (atT l (nxT l x)) (nxT l x) e v).sn) ∧ Below w.heap.size w w' := by
 obtain ⟨hc1, hc2⟩ := seq_form h
 have hb3 : Below w.heap.size w (((w.alloc (.cells (thC x (.slice S x.sn.length cs)) 73)).alloc (.cells (evC e) 43)).alloc (.cells thZ 73)) := (((Below.refl _ _).alloc (Nat.le_refl _) _).alloc (by simp) _).alloc (by simp; omega) _
 have l1 := ((Lies.made w 73 (thC x (.slice S x.sn.length cs))).alloc (.cells (evC e) 43)).alloc (.cells thZ 73)
 have l2 := (Lies.made (w.alloc (.cells (thC x (.slice S x.sn.length cs)) 73)) 43 (evC e)).alloc (.cells thZ 73)
 have l3 := Lies.made ((w.alloc (.cells (thC x (.slice S x.sn.length cs)) 73)).alloc (.cells (evC e) 43)) 73 thZ
 rw [show (w.alloc (.cells (thC x (.slice S x.sn.length cs)) 73)).heap.size = w.heap.size + 1 by simp] at l2
 rw [show ((w.alloc (.cells (thC x (.slice S x.sn.length cs)) 73)).alloc (.cells (evC e) 43)).heap.size = w.heap.size + 1 + 1 by simp] at l3
 have HB := Lib.hid hb3
 have HG := Lib.hid l1
 have HE := Lib.hid l2
 have H4 := Lib.hid l3
 have HH := Lib.hid (fun (q : World) (hq : Below w.heap.size w q) => h.later hq)
 clear hb3 l1 l2 l3
 have hnf := nxT_facts hr hx hok
 have HNX := Lib.hid (fun q hq hs => next16 l A c x S cs q hq hok hx hs hl hr)
 have HSQ := Lib.hid (fun (q : World) (hq : Below w.heap.size w q) => hs.later hq)
 have HRI := Lib.hid (fun q => right15 e q)
 rw [hre] at HRI
 have HMT := Lib.hid (fun q => matches16 (reqA l (nxT l x)) e q)
 rw [hf] at HMT
 have HKD := Lib.hid hk
 clear hk
 clear hre hf
 obtain ⟨n, hn⟩ : ∃ n, x.sn.length = n := ⟨_, rfl⟩
 have HNE : Hid ((nxT l x).sn.length = n) := by show _ = _; rw [hnf.2.2, hn]
 have HSE : Hid (cells64 x.sn = cells64 (nxT l x).sn) := by show _ = _; rw [hnf.2.2]
 have HIV := Lib.hid hnf.1
 have HCD := Lib.hid (thB_parts hr).1
 have hlen := (codeB_parts HCD.out).1
 have HOK := Lib.hid hok
 have hn6 : n ≤ 1000000 := by omega
 have HNN := Lib.hid hn
 clear h hs hl hr hx hok hnf hn
 go_enter Tryz.func73, Tryz.ntmps73
 go_upto_region 1 with (fail)
 generalize (((w.alloc (.cells (thC x (.slice S x.sn.length cs)) 73)).alloc (.cells (evC e) 43)).alloc (.cells thZ 73)) = w1 at *
 have c0 := (HG.out.cell 0).trans (show _ = some (Value.int .i64 x.at_) from rfl)
 have c1 := (HG.out.cell 1).trans (show _ = some (Value.int .i64 x.ph) from rfl)
 have c2 := (HG.out.cell 2).trans (show _ = some (Value.int .i64 x.rg) from rfl)
 have c3 := (HG.out.cell 3).trans (show _ = some (Value.int .i64 x.st) from rfl)
 have c4 := (HG.out.cell 4).trans (show _ = some (Value.int .u64 (x.tk : Int)) from rfl)
 have c5 := (HG.out.cell 5).trans (show _ = some (Value.int .u64 (x.r 0 : Int)) from rfl)
 have c6 := (HG.out.cell 6).trans (show _ = some (Value.int .u64 (x.r 1 : Int)) from rfl)
 have c7 := (HG.out.cell 7).trans (show _ = some (Value.int .u64 (x.r 2 : Int)) from rfl)
 have c8 := (HG.out.cell 8).trans (show _ = some (Value.int .u64 (x.r 3 : Int)) from rfl)
 have c9 := (HG.out.cell 9).trans (show _ = some (Value.int .u64 (x.r 4 : Int)) from rfl)
 have c10 := (HG.out.cell 10).trans (show _ = some (Value.int .u64 (x.r 5 : Int)) from rfl)
 have c11 := (HG.out.cell 11).trans (show _ = some (Value.int .u64 (x.r 6 : Int)) from rfl)
 have c12 := (HG.out.cell 12).trans (show _ = some (Value.int .u64 (x.r 7 : Int)) from rfl)
 have c13 := (HG.out.cell 13).trans (show _ = some ((.slice S x.sn.length cs)) from rfl)
 have cl := HG.out.lt
 go_wp2_with fail
 refine (HNX.out _ (HH.out _ HB.out) (HSQ.out _ HB.out)).mono ?_
 rintro e1 w2 ⟨A', c', rfl, ho, hbm⟩
 have HN2 : Hid (w.heap.size + 1 + 1 < w2.heap.size) := Nat.lt_of_lt_of_le H4.out.lt hbm.size
 have HO0 := owns_mono ho HB.out.size
 rw [HSE.out] at HO0
 rw [HNN.out] at HO0 ⊢
 have HO := Lib.hid HO0
 replace HG := Lib.hid (HG.out.below hbm HG.out.lt)
 replace HE := Lib.hid (HE.out.below hbm HE.out.lt)
 replace H4 := Lib.hid (H4.out.below hbm H4.out.lt)
 replace HB := Lib.hid (HB.out.trans (hbm.mono HB.out.size))
 clear hbm HNX HSQ ho HO0 HSE
 generalize hyy : nxT l x = y at *
 have HYE := Lib.hid hyy
 clear hyy
 generalize hzz : reqA l y = z at *
 have HZE := Lib.hid hzz
 clear hzz
 clear c0 c1 c2 c3 c4 c5 c6 c7 c8 c9 c10 c11 c12 c13 cl
 have hba := (Below.refl w2.heap.size w2).alloc (Nat.le_refl _) (.cells akZ 63)
 have H5 := Lib.hid (Lies.made w2 63 akZ)
 replace HG := Lib.hid (HG.out.below hba HG.out.lt)
 replace HE := Lib.hid (HE.out.below hba HE.out.lt)
 replace H4 := Lib.hid (H4.out.below hba H4.out.lt)
 replace HB := Lib.hid (HB.out.trans (hba.mono HB.out.size))
 replace HO := Lib.hid (owned_below HO.out hba)
 have hn5 : w.heap.size + 1 + 1 < w2.heap.size := HN2.out
 clear hba HN2
 generalize hw3 : w2.alloc (.cells akZ 63) = w3 at *
 generalize hn5e : w2.heap.size = n5 at *
 go_wp2_with (
  refine wpList_store_row rfl 73 _ _ rfl (w.heap.size) (thC y (.slice A' n c')) rfl rfl 73 (thC x (.slice S x.sn.length cs)) HG.out infoTh rfl (thC_one _ rfl) ?_
  try clear hw3
  have hk4 := kept_rowT (w := w3) (g := w.heap.size) (thC y (.slice A' n c'))
  replace HO := Lib.hid (owns_kept HO.out hk4 (fun r cur hr hl (e : r = w.heap.size) => by subst e; exact absurd (hl.same HG.out).1 (by decide)))
  replace HG := Lib.hid (lies_row HG.out (thC y (.slice A' n c')))
  replace HE := Lib.hid (HE.out.kept hk4 (fun (e : w.heap.size + 1 = w.heap.size) => by omega))
  replace H4 := Lib.hid (H4.out.kept hk4 (fun (e : w.heap.size + 1 + 1 = w.heap.size) => by omega))
  replace H5 := Lib.hid (H5.out.kept hk4 (fun (e : n5 = w.heap.size) => by omega))
  replace HB := Lib.hid (HB.out.trans (hk4.below HB.out.size (fun k hk (e : k = w.heap.size) => by omega)))
  clear hk4
  generalize w3.setRow (w.heap.size) (thC y (.slice A' n c')) = w4 at *
  go_wp2_with (
   refine wpList_store_row rfl 63 _ _ rfl n5 (akC z) rfl rfl 63 akZ H5.out infoAk rfl (akC_one _) ?_
   have hk5 := kept_rowT (w := w4) (g := n5) (akC z)
   replace HO := Lib.hid (owns_kept HO.out hk5 (fun r cur hr hl (e : r = n5) => by subst e; exact absurd (hl.same H5.out).1 (by decide)))
   replace HG := Lib.hid (HG.out.kept hk5 (fun (e : w.heap.size = n5) => by omega))
   replace HE := Lib.hid (HE.out.kept hk5 (fun (e : w.heap.size + 1 = n5) => by omega))
   replace H4 := Lib.hid (H4.out.kept hk5 (fun (e : w.heap.size + 1 + 1 = n5) => by omega))
   replace H5 := Lib.hid (lies_row H5.out (akC z))
   replace HB := Lib.hid (HB.out.trans (hk5.below HB.out.size (fun k hk (e : k = n5) => by omega)))
   clear hk5
   generalize w4.setRow n5 (akC z) = wq at *
   have q0 := (HE.out.cell 0).trans (show _ = some (Value.int .i64 e.th) from rfl)
   have q1 := (HE.out.cell 1).trans (show _ = some (Value.int .i64 e.kd) from rfl)
   have q2 := (HE.out.cell 2).trans (show _ = some (Value.int .i64 e.rg) from rfl)
   have q3 := (HE.out.cell 3).trans (show _ = some (Value.int .u64 (e.tk : Int)) from rfl)
   have q4 := (HE.out.cell 4).trans (show _ = some (Value.int .u64 (e.vl : Int)) from rfl)
   have ql := HE.out.lt
   go_wp2_with fail
   refine (HRI.out _).mono ?_
   rintro e1 w5 ⟨rfl, hbm⟩
   clear q0 q1 q2 q3 q4 ql
   replace H5 := Lib.hid (H5.out.below hbm H5.out.lt)
   replace HO := Lib.hid (owned_below HO.out hbm)
   replace HG := Lib.hid (HG.out.below hbm HG.out.lt)
   replace HE := Lib.hid (HE.out.below hbm HE.out.lt)
   replace H4 := Lib.hid (H4.out.below hbm H4.out.lt)
   replace HB := Lib.hid (HB.out.trans (hbm.mono HB.out.size))
   clear hbm HRI
   clear wq
   have q0 := (HE.out.cell 0).trans (show _ = some (Value.int .i64 e.th) from rfl)
   have q1 := (HE.out.cell 1).trans (show _ = some (Value.int .i64 e.kd) from rfl)
   have q2 := (HE.out.cell 2).trans (show _ = some (Value.int .i64 e.rg) from rfl)
   have q3 := (HE.out.cell 3).trans (show _ = some (Value.int .u64 (e.tk : Int)) from rfl)
   have q4 := (HE.out.cell 4).trans (show _ = some (Value.int .u64 (e.vl : Int)) from rfl)
   have ql := HE.out.lt
   have k0 := (H5.out.cell 0).trans (show _ = some (.int .i64 z.kd) from rfl)
   have k1 := (H5.out.cell 1).trans (show _ = some (.int .i64 z.rg) from rfl)
   have k2 := (H5.out.cell 2).trans (show _ = some (.int .i64 z.md) from rfl)
   have k3 := (H5.out.cell 3).trans (show _ = some (.int .i64 z.rd) from rfl)
   have k4 := (H5.out.cell 4).trans (show _ = some (.int .u64 (z.tk : Int)) from rfl)
   have k5 := (H5.out.cell 5).trans (show _ = some (.int .u64 (z.vl : Int)) from rfl)
   have kl := H5.out.lt
   go_wp2_with fail
   refine (HMT.out _).mono ?_
   rintro e1 wq ⟨rfl, hbm⟩
   clear q0 q1 q2 q3 q4 ql
   clear k0 k1 k2 k3 k4 k5 kl
   replace HO := Lib.hid (owned_below HO.out hbm)
   replace HG := Lib.hid (HG.out.below hbm HG.out.lt)
   replace HE := Lib.hid (HE.out.below hbm HE.out.lt)
   replace H4 := Lib.hid (H4.out.below hbm H4.out.lt)
   replace HB := Lib.hid (HB.out.trans (hbm.mono HB.out.size))
   clear hbm HMT H5 w5
   have q0 := (HE.out.cell 0).trans (show _ = some (Value.int .i64 e.th) from rfl)
   have q1 := (HE.out.cell 1).trans (show _ = some (Value.int .i64 e.kd) from rfl)
   have q2 := (HE.out.cell 2).trans (show _ = some (Value.int .i64 e.rg) from rfl)
   have q3 := (HE.out.cell 3).trans (show _ = some (Value.int .u64 (e.tk : Int)) from rfl)
   have q4 := (HE.out.cell 4).trans (show _ = some (Value.int .u64 (e.vl : Int)) from rfl)
   have ql := HE.out.lt
   rw [HKD.out] at q1
   have c3 := (HG.out.cell 3).trans (show _ = some (.int .i64 y.st) from rfl)
   have cl := HG.out.lt
   have f3 := HG.out.free 3
   go_upto_region 18 with (fail)
   clear q0 q1 q2 q3 q4 ql
   clear c3 cl f3
   replace H4 := Lib.hid (H4.out.far (p := ⟨w.heap.size, 3, none⟩) (show w.heap.size + 1 + 1 ≠ w.heap.size by omega) (.int .i64 2))
   replace HO := Lib.hid (owns_put HO.out HG.out (by decide) 3 (.int .i64 2))
   replace HB := Lib.hid (HB.out.setCell (p := ⟨w.heap.size, 3, none⟩) (Nat.le_refl _) (.int .i64 2))
   replace HG := Lib.hid (show Lies (wq.setCell ⟨w.heap.size, 3, none⟩ (.int .i64 2)) (w.heap.size) 73 (thC ({ y with st := 2 } : Th) (.slice A' n c')) from HG.out.put 3 (.int .i64 2))
   generalize wq.setCell ⟨w.heap.size, 3, none⟩ (.int .i64 2) = w9 at *
   clear HE HIV HCD HOK
   have HBE : Hid (behT (atT l y) y e v = ({ y with st := 2 } : Th)) := by show _ = _; unfold behT; rw [HKD.out]; simp
   replace HO : Hid (World.ownsRow w9 w.heap.size 37 1 (.slice A' n c') n (cells64 (({ y with st := 2 } : Th)).sn)) := HO
   have HZN : Hid ((({ y with st := 2 } : Th)).sn.length = n) := HNE
   have c0 := (HG.out.cell 0).trans (show _ = some (Value.int .i64 ({ y with st := 2 } : Th).at_) from rfl)
   have c1 := (HG.out.cell 1).trans (show _ = some (Value.int .i64 ({ y with st := 2 } : Th).ph) from rfl)
   have c2 := (HG.out.cell 2).trans (show _ = some (Value.int .i64 ({ y with st := 2 } : Th).rg) from rfl)
   have c3 := (HG.out.cell 3).trans (show _ = some (Value.int .i64 ({ y with st := 2 } : Th).st) from rfl)
   have c4 := (HG.out.cell 4).trans (show _ = some (Value.int .u64 (({ y with st := 2 } : Th).tk : Int)) from rfl)
   have c5 := (HG.out.cell 5).trans (show _ = some (Value.int .u64 (({ y with st := 2 } : Th).r 0 : Int)) from rfl)
   have c6 := (HG.out.cell 6).trans (show _ = some (Value.int .u64 (({ y with st := 2 } : Th).r 1 : Int)) from rfl)
   have c7 := (HG.out.cell 7).trans (show _ = some (Value.int .u64 (({ y with st := 2 } : Th).r 2 : Int)) from rfl)
   have c8 := (HG.out.cell 8).trans (show _ = some (Value.int .u64 (({ y with st := 2 } : Th).r 3 : Int)) from rfl)
   have c9 := (HG.out.cell 9).trans (show _ = some (Value.int .u64 (({ y with st := 2 } : Th).r 4 : Int)) from rfl)
   have c10 := (HG.out.cell 10).trans (show _ = some (Value.int .u64 (({ y with st := 2 } : Th).r 5 : Int)) from rfl)
   have c11 := (HG.out.cell 11).trans (show _ = some (Value.int .u64 (({ y with st := 2 } : Th).r 6 : Int)) from rfl)
   have c12 := (HG.out.cell 12).trans (show _ = some (Value.int .u64 (({ y with st := 2 } : Th).r 7 : Int)) from rfl)
   have c13 := (HG.out.cell 13).trans (show _ = some ((.slice A' n c')) from rfl)
   have cl := HG.out.lt
   go_wp2_with (
    refine wpList_store_row rfl 73 _ _ rfl (w.heap.size + 1 + 1) (thC ({ y with st := 2 } : Th) (.slice A' n c')) rfl rfl 73 thZ H4.out infoTh rfl (thC_one _ rfl) ?_
    clear c0 c1 c2 c3 c4 c5 c6 c7 c8 c9 c10 c11 c12 c13 cl
    have hk9 := kept_rowT (w := w9) (g := w.heap.size + 1 + 1) (thC ({ y with st := 2 } : Th) (.slice A' n c'))
    have HBZ := Lib.hid (HB.out.trans (hk9.below HB.out.size (fun k hk (e : k = w.heap.size + 1 + 1) => by omega)))
    have Q4 := Lib.hid (lies_row H4.out (thC ({ y with st := 2 } : Th) (.slice A' n c')))
    have HOZ := Lib.hid (owns_kept HO.out hk9 (fun r cur hr hl (e : r = w.heap.size + 1 + 1) => by subst e; exact absurd (hl.same H4.out).1 (by decide)))
    clear hk9
    generalize w9.setRow (w.heap.size + 1 + 1) (thC ({ y with st := 2 } : Th) (.slice A' n c')) = wF at *
    clear HB H4 HG HO
    generalize hz9 : ({ y with st := 2 } : Th) = Z9 at *
    have z0 := (Q4.out.cell 0).trans (show _ = some (Value.int .i64 Z9.at_) from rfl)
    have z1 := (Q4.out.cell 1).trans (show _ = some (Value.int .i64 Z9.ph) from rfl)
    have z2 := (Q4.out.cell 2).trans (show _ = some (Value.int .i64 Z9.rg) from rfl)
    have z3 := (Q4.out.cell 3).trans (show _ = some (Value.int .i64 Z9.st) from rfl)
    have z4 := (Q4.out.cell 4).trans (show _ = some (Value.int .u64 (Z9.tk : Int)) from rfl)
    have z5 := (Q4.out.cell 5).trans (show _ = some (Value.int .u64 (Z9.r 0 : Int)) from rfl)
    have z6 := (Q4.out.cell 6).trans (show _ = some (Value.int .u64 (Z9.r 1 : Int)) from rfl)
    have z7 := (Q4.out.cell 7).trans (show _ = some (Value.int .u64 (Z9.r 2 : Int)) from rfl)
    have z8 := (Q4.out.cell 8).trans (show _ = some (Value.int .u64 (Z9.r 3 : Int)) from rfl)
    have z9 := (Q4.out.cell 9).trans (show _ = some (Value.int .u64 (Z9.r 4 : Int)) from rfl)
    have z10 := (Q4.out.cell 10).trans (show _ = some (Value.int .u64 (Z9.r 5 : Int)) from rfl)
    have z11 := (Q4.out.cell 11).trans (show _ = some (Value.int .u64 (Z9.r 6 : Int)) from rfl)
    have z12 := (Q4.out.cell 12).trans (show _ = some (Value.int .u64 (Z9.r 7 : Int)) from rfl)
    have z13 := (Q4.out.cell 13).trans (show _ = some ((.slice A' n c')) from rfl)
    have zl := Q4.out.lt
    go_wp2
    exact bodyPost_ret (v := .tuple #[.agg (thC Z9 (.slice A' n c')), .int .i64 0]) (by simp [results, Tryz.results73, go_sem, z0, z1, z2, z3, z4, z5, z6, z7, z8, z9, z10, z11, z12, z13]) rfl ⟨_, _, by rw [HYE.out, HBE.out, HZN.out], by rw [HYE.out, HBE.out, HZN.out]; exact HOZ.out, HBZ.out⟩)))
end Go.Proofs.YtdffpbfebgcmaaaGreat
