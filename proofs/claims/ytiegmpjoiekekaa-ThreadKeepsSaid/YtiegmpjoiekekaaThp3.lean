/-
  One plain instruction (layer 16): the document's.
-/
import Derived.Test.YtiegmpjoiekekaaThg
namespace Go.Proofs.Ytiegmpjoiekekaa
open Go.RowKit
set_option linter.unusedVariables false
set_option linter.unusedSimpArgs false
abbrev thZ : Array Value := #[.int .i64 0, .int .i64 0, .int .i64 0, .int .i64 0, .int .u64 0, .int .u64 0, .int .u64 0, .int .u64 0, .int .u64 0, .int .u64 0, .int .u64 0, .int .u64 0, .int .u64 0, .slice none 0 0]
theorem kept_rowT {w : World} {g : Nat} (cs : Array Value) : Kept (oneRow g) w (w.setRow g cs) :=
  ⟨rfl, rfl, rfl, by unfold World.setRow; simp, fun k _ hk => setRow_other w g k cs (fun e => hk e)⟩
theorem infoTh : (Try.prog.info? 27).map (·.size) = some 14 := by kernel_rfl
theorem thC_one (x : Th) {v : Value} (hv : v.oneCell' = true) : (thC x v).all (·.oneCell') = true := by
  simp [thC, hv]
  exact ⟨rfl, rfl, rfl, rfl, rfl, rfl, rfl, rfl, rfl, rfl, rfl, rfl, rfl⟩
set_option maxHeartbeats 8000000 in
set_option maxRecDepth 100000 in
theorem rfPlain16 (l : List In) (A : Option Addr) (c : Nat) (x : Th) (v : Value) (i : In) (w : World) (h : InsAt w A c l) (h0 : 0 ≤ x.at_) (hlt : x.at_ < (l.length : Int)) (h256 : l.length ≤ 256) (hi : atT l x = i) (hr : rightB i = true) (h1 : 1 ≤ i.op) (h17 : i.op ≤ 17) (hx : ∀ j, x.r j ≤ 18446744073709551615) (hk : i.k ≤ 18446744073709551615) (hv : v.oneCell' = true) :
    Calls Try.prog 31 #[.slice A l.length c, .agg (thC x v)] w fun e w' => e = .returned (.agg (thC (stepT i x) v)) ∧ Below w.heap.size w w' := by
  obtain ⟨hc1, hc2⟩ := seq_form h
  obtain ⟨⟨a0, a7⟩, ⟨b0, b7⟩, ⟨q0, q7⟩, hk15⟩ := plain_regs hr h1 h17
  obtain ⟨pn, hpn⟩ : ∃ n : Nat, x.at_ = n := ⟨x.at_.toNat, by omega⟩
  obtain ⟨i', hi'⟩ : ∃ i, l[pn]? = some i := ⟨_, List.getElem?_eq_getElem (by omega)⟩
  obtain rfl : i' = i := (atT_get hpn hi').symm.trans hi
  obtain ⟨b, off, rfl, hbl, hg⟩ := InsAt.at_ h hi'
  have HG := Lib.hid (fun (q : World) (hq : Below w.heap.size w q) (j : Nat) (u : Value) (hj : j < 6) (hu : (inF i')[j]? = some u) => cell_later (hg j u hj hu) hq)
  have hal : (pn : Int) < (l.length : Int) := by omega
  have hpw : IntKind.i64.wrap ((pn : Int) + 1) = (pn : Int) + 1 := IntWalk.i64_in _ (by omega)
  have hmem := hr
  obtain ⟨an, han⟩ : ∃ n : Nat, i'.a = n := ⟨i'.a.toNat, by omega⟩
  obtain ⟨bn, hbn⟩ : ∃ n : Nat, i'.b = n := ⟨i'.b.toNat, by omega⟩
  obtain ⟨cn, hcn⟩ : ∃ n : Nat, i'.c = n := ⟨i'.c.toNat, by omega⟩
  obtain ⟨on, hon⟩ : ∃ n : Nat, i'.op = n := ⟨i'.op.toNat, by omega⟩
  have ha8 : an < 8 := by omega
  have hb8 : bn < 8 := by omega
  have hc8 : cn < 8 := by omega
  have hon1 : 1 ≤ on ∧ on ≤ 17 := by omega
  have hrk : 15 ≤ on → i'.k ≤ 256 := fun e => hk15 (by omega)
  have HRK := Lib.hid hrk
  clear h17 h1 hk15 hi hi' hg hrk a0 a7 b0 b7 q0 q7 hr hmem
  obtain ⟨iop, ia, ib, ic, id, ik⟩ := i'
  have han : ia = an := han
  have hbn : ib = bn := hbn
  have hcn : ic = cn := hcn
  have hon : iop = on := hon
  subst han
  subst hbn
  subst hcn
  subst hon
  have hb1 : Below w.heap.size w (w.alloc (.cells (thC x v) 27)) := (Below.refl _ _).alloc (Nat.le_refl _) _
  have hb2 := hb1.alloc (by simp) (.cells thZ 27)
  have hb3 := hb2.alloc (by simp; omega) (.cells (inC ⟨on, an, bn, cn, id, ik⟩) 50)
  have l1 := ((Lies.made w 27 (thC x v)).alloc (.cells thZ 27)).alloc (.cells (inC ⟨on, an, bn, cn, id, ik⟩) 50)
  have l2 := (Lies.made (w.alloc (.cells (thC x v) 27)) 27 thZ).alloc (.cells (inC ⟨on, an, bn, cn, id, ik⟩) 50)
  have l3 := Lies.made ((w.alloc (.cells (thC x v) 27)).alloc (.cells thZ 27)) 50 (inC ⟨on, an, bn, cn, id, ik⟩)
  rw [show (w.alloc (.cells (thC x v) 27)).heap.size = w.heap.size + 1 by simp] at l2
  rw [show ((w.alloc (.cells (thC x v) 27)).alloc (.cells thZ 27)).heap.size = w.heap.size + 1 + 1 by simp] at l3
  have HB2 := Lib.hid hb2
  have HB := Lib.hid hb3
  have HS := Lib.hid l1
  have HR := Lib.hid l2
  have HI := Lib.hid l3
  have HPN := Lib.hid hpn
  have HX := Lib.hid hx
  clear hb1 hb2 hb3 l1 l2 l3 h h0 hlt hx
  generalize hzz : stepT ⟨on, an, bn, cn, id, ik⟩ x = z
  have HZZ := Lib.hid hzz
  clear hzz
  have HONE := Lib.hid (fun z => thC_one z hv)
  have g0 := HG.out _ (HB2).out 0 _ (by decide) rfl
  have g1 := HG.out _ (HB2).out 1 _ (by decide) rfl
  have g2 := HG.out _ (HB2).out 2 _ (by decide) rfl
  have g3 := HG.out _ (HB2).out 3 _ (by decide) rfl
  have g4 := HG.out _ (HB2).out 4 _ (by decide) rfl
  have g5 := HG.out _ (HB2).out 5 _ (by decide) rfl
  rw [Nat.add_zero] at g0
  go_enter Try.func31, Try.ntmps31
  go_upto_region 2 with (fail)
  generalize (((w.alloc (.cells (thC x v) 27)).alloc (.cells thZ 27)).alloc (.cells (inC ⟨on, an, bn, cn, id, ik⟩) 50)) = w1 at *
  clear g0 g1 g2 g3 g4 g5 HG HB2
  have c0 := (HS.out.cell 0).trans (show _ = some (Value.int .i64 x.at_) from rfl)
  rw [HPN.out] at c0
  have cl := HS.out.lt
  have cf := HS.out.free 0
  go_upto_region 3 with (fail)
  have HS2 := Lib.hid (show Lies (w1.setCell ⟨w.heap.size, 0, none⟩ (.int .i64 ((pn : Int) + 1))) w.heap.size 27 (thC (goOn x) v) from by have := HS.out.put 0 (.int .i64 ((pn : Int) + 1)); rw [← HPN.out] at this ⊢; exact this)
  have HR2 := Lib.hid (HR.out.far (p := ⟨w.heap.size, 0, none⟩) (show w.heap.size + 1 ≠ w.heap.size by omega) (.int .i64 ((pn : Int) + 1)))
  have HI2 := Lib.hid (HI.out.far (p := ⟨w.heap.size, 0, none⟩) (show w.heap.size + 1 + 1 ≠ w.heap.size by omega) (.int .i64 ((pn : Int) + 1)))
  have HB2 := Lib.hid (HB.out.setCell (p := ⟨w.heap.size, 0, none⟩) (show w.heap.size ≤ w.heap.size by omega) (.int .i64 ((pn : Int) + 1)))
  generalize w1.setCell ⟨w.heap.size, 0, none⟩ (.int .i64 ((pn : Int) + 1)) = w2 at *
  clear c0 cl cf HS HR HI HB
  have d0 := (HI2.out.cell 0).trans (show _ = some (Value.int .i64 (on : Int)) from rfl)
  have d1 := (HI2.out.cell 1).trans (show _ = some (Value.int .i64 (an : Int)) from rfl)
  have d2 := (HI2.out.cell 2).trans (show _ = some (Value.int .i64 (bn : Int)) from rfl)
  have d3 := (HI2.out.cell 3).trans (show _ = some (Value.int .i64 (cn : Int)) from rfl)
  have d5 := (HI2.out.cell 5).trans (show _ = some (Value.int .u64 (ik : Int)) from rfl)
  have dl := HI2.out.lt
  have ra := (HS2.out.cell (5 + an)).trans (thC_reg (goOn x) v ha8)
  have rb := (HS2.out.cell (5 + bn)).trans (thC_reg (goOn x) v hb8)
  have rc := (HS2.out.cell (5 + cn)).trans (thC_reg (goOn x) v hc8)
  replace ra : w2.cell? ⟨w.heap.size, 5 + an, none⟩ = some (Value.int .u64 (x.r an : Int)) := ra
  replace rb : w2.cell? ⟨w.heap.size, 5 + bn, none⟩ = some (Value.int .u64 (x.r bn : Int)) := rb
  replace rc : w2.cell? ⟨w.heap.size, 5 + cn, none⟩ = some (Value.int .u64 (x.r cn : Int)) := rc
  have rn := (HS2.out.cell 0).trans (show _ = some (Value.int .i64 (x.at_ + 1)) from rfl)
  have rl := HS2.out.lt
  have rf := HS2.out.free (5 + an)
  have rg := HS2.out.free 0
  by_cases o1 : on = 1
  · subst o1
    have HST : Hid (z = setR (goOn x) an ik) := by
      show _ = _
      rw [← HZZ.out]
      unfold stepT
      simp
    go_upto_region 12 with (fail)
    have HG3 := Lib.hid (show Lies (w2.setCell ⟨w.heap.size, (5+an), none⟩ ((.int .u64 (ik:Int)))) w.heap.size 27 (thC z v) from by have := HS2.out.put ((5+an)) ((.int .u64 (ik:Int))); (try rw [thC_set _ v ha8] at this); rw [HST.out]; exact this)
    have HR3 := Lib.hid (HR2.out.far (p := ⟨w.heap.size, (5+an), none⟩) (show w.heap.size + 1 ≠ w.heap.size by omega) ((.int .u64 (ik:Int))))
    have HB3 := Lib.hid (HB2.out.setCell (p := ⟨w.heap.size, (5+an), none⟩) (show w.heap.size ≤ w.heap.size by omega) ((.int .u64 (ik:Int))))
    clear d0 d1 d2 d3 d5 dl ra rb rc rn rl rf rg
    generalize w2.setCell ⟨w.heap.size, 5 + an, none⟩ (.int .u64 (ik : Int)) = w3 at *
    have c0 := (HG3.out.cell 0).trans (show _ = some (Value.int .i64 z.at_) from rfl)
    have c1 := (HG3.out.cell 1).trans (show _ = some (Value.int .i64 z.ph) from rfl)
    have c2 := (HG3.out.cell 2).trans (show _ = some (Value.int .i64 z.rg) from rfl)
    have c3 := (HG3.out.cell 3).trans (show _ = some (Value.int .i64 z.st) from rfl)
    have c4 := (HG3.out.cell 4).trans (show _ = some (Value.int .u64 (z.tk : Int)) from rfl)
    have c5 := (HG3.out.cell 5).trans (show _ = some (Value.int .u64 (z.r 0 : Int)) from rfl)
    have c6 := (HG3.out.cell 6).trans (show _ = some (Value.int .u64 (z.r 1 : Int)) from rfl)
    have c7 := (HG3.out.cell 7).trans (show _ = some (Value.int .u64 (z.r 2 : Int)) from rfl)
    have c8 := (HG3.out.cell 8).trans (show _ = some (Value.int .u64 (z.r 3 : Int)) from rfl)
    have c9 := (HG3.out.cell 9).trans (show _ = some (Value.int .u64 (z.r 4 : Int)) from rfl)
    have c10 := (HG3.out.cell 10).trans (show _ = some (Value.int .u64 (z.r 5 : Int)) from rfl)
    have c11 := (HG3.out.cell 11).trans (show _ = some (Value.int .u64 (z.r 6 : Int)) from rfl)
    have c12 := (HG3.out.cell 12).trans (show _ = some (Value.int .u64 (z.r 7 : Int)) from rfl)
    have c13 := (HG3.out.cell 13).trans (show _ = some (v) from rfl)
    have cl := HG3.out.lt
    have hz := setRow_heap w3 (w.heap.size + 1) thZ (thC z v) 27 (0, 0) HR3.out
    have hbz := HB3.out.trans ((kept_rowT (w := w3) (g := w.heap.size + 1) (thC z v)).below HB3.out.size (fun k hk (e : k = w.heap.size + 1) => by omega))
    have HZ9 : Hid (Lies (w3.setRow (w.heap.size + 1) (thC z v)) (w.heap.size + 1) 27 (thC z v)) := hz
    have HBZ := Lib.hid hbz
    clear hz hbz
    go_wp2_with (refine wpList_store_row rfl 27 _ _ rfl (w.heap.size + 1) (thC z v) rfl rfl 27 thZ HR3.out infoTh rfl (HONE.out z) ?_)
    generalize w3.setRow (w.heap.size + 1) (thC z v) = w9 at *
    clear c0 c1 c2 c3 c4 c5 c6 c7 c8 c9 c10 c11 c12 c13 cl
    clear HR3 HG3 HB3
    have z0 := (HZ9.out.cell 0).trans (show _ = some (Value.int .i64 z.at_) from rfl)
    have z1 := (HZ9.out.cell 1).trans (show _ = some (Value.int .i64 z.ph) from rfl)
    have z2 := (HZ9.out.cell 2).trans (show _ = some (Value.int .i64 z.rg) from rfl)
    have z3 := (HZ9.out.cell 3).trans (show _ = some (Value.int .i64 z.st) from rfl)
    have z4 := (HZ9.out.cell 4).trans (show _ = some (Value.int .u64 (z.tk : Int)) from rfl)
    have z5 := (HZ9.out.cell 5).trans (show _ = some (Value.int .u64 (z.r 0 : Int)) from rfl)
    have z6 := (HZ9.out.cell 6).trans (show _ = some (Value.int .u64 (z.r 1 : Int)) from rfl)
    have z7 := (HZ9.out.cell 7).trans (show _ = some (Value.int .u64 (z.r 2 : Int)) from rfl)
    have z8 := (HZ9.out.cell 8).trans (show _ = some (Value.int .u64 (z.r 3 : Int)) from rfl)
    have z9 := (HZ9.out.cell 9).trans (show _ = some (Value.int .u64 (z.r 4 : Int)) from rfl)
    have z10 := (HZ9.out.cell 10).trans (show _ = some (Value.int .u64 (z.r 5 : Int)) from rfl)
    have z11 := (HZ9.out.cell 11).trans (show _ = some (Value.int .u64 (z.r 6 : Int)) from rfl)
    have z12 := (HZ9.out.cell 12).trans (show _ = some (Value.int .u64 (z.r 7 : Int)) from rfl)
    have z13 := (HZ9.out.cell 13).trans (show _ = some (v) from rfl)
    have zl := HZ9.out.lt
    exact bodyPost_ret (by simp [results, Try.results31, go_sem, z0, z1, z2, z3, z4, z5, z6, z7, z8, z9, z10, z11, z12, z13]) rfl ⟨rfl, HBZ.out⟩
  by_cases o2 : on = 2
  · subst o2
    have HST : Hid (z = setR (goOn x) an (x.r bn)) := by
      show _ = _
      rw [← HZZ.out]
      unfold stepT
      simp
    go_upto_region 6 with (fail)
    go_region
    go_upto_region 12 with (fail)
    have HG3 := Lib.hid (show Lies (w2.setCell ⟨w.heap.size, (5+an), none⟩ ((.int .u64 (x.r bn:Int)))) w.heap.size 27 (thC z v) from by have := HS2.out.put ((5+an)) ((.int .u64 (x.r bn:Int))); (try rw [thC_set _ v ha8] at this); rw [HST.out]; exact this)
    have HR3 := Lib.hid (HR2.out.far (p := ⟨w.heap.size, (5+an), none⟩) (show w.heap.size + 1 ≠ w.heap.size by omega) ((.int .u64 (x.r bn:Int))))
    have HB3 := Lib.hid (HB2.out.setCell (p := ⟨w.heap.size, (5+an), none⟩) (show w.heap.size ≤ w.heap.size by omega) ((.int .u64 (x.r bn:Int))))
    clear d0 d1 d2 d3 d5 dl ra rb rc rn rl rf rg
    have HG3 : Hid (Lies (w2.setCell ⟨w.heap.size, 5 + an, none⟩ (.int .u64 (x.r bn : Int))).drew _ _ _) := HG3
    have HR3 : Hid (Lies (w2.setCell ⟨w.heap.size, 5 + an, none⟩ (.int .u64 (x.r bn : Int))).drew _ _ _) := HR3
    have HB3 := Lib.hid HB3.out.drew
    generalize (w2.setCell ⟨w.heap.size, 5 + an, none⟩ (.int .u64 (x.r bn : Int))).drew = w3 at *
    have c0 := (HG3.out.cell 0).trans (show _ = some (Value.int .i64 z.at_) from rfl)
    have c1 := (HG3.out.cell 1).trans (show _ = some (Value.int .i64 z.ph) from rfl)
    have c2 := (HG3.out.cell 2).trans (show _ = some (Value.int .i64 z.rg) from rfl)
    have c3 := (HG3.out.cell 3).trans (show _ = some (Value.int .i64 z.st) from rfl)
    have c4 := (HG3.out.cell 4).trans (show _ = some (Value.int .u64 (z.tk : Int)) from rfl)
    have c5 := (HG3.out.cell 5).trans (show _ = some (Value.int .u64 (z.r 0 : Int)) from rfl)
    have c6 := (HG3.out.cell 6).trans (show _ = some (Value.int .u64 (z.r 1 : Int)) from rfl)
    have c7 := (HG3.out.cell 7).trans (show _ = some (Value.int .u64 (z.r 2 : Int)) from rfl)
    have c8 := (HG3.out.cell 8).trans (show _ = some (Value.int .u64 (z.r 3 : Int)) from rfl)
    have c9 := (HG3.out.cell 9).trans (show _ = some (Value.int .u64 (z.r 4 : Int)) from rfl)
    have c10 := (HG3.out.cell 10).trans (show _ = some (Value.int .u64 (z.r 5 : Int)) from rfl)
    have c11 := (HG3.out.cell 11).trans (show _ = some (Value.int .u64 (z.r 6 : Int)) from rfl)
    have c12 := (HG3.out.cell 12).trans (show _ = some (Value.int .u64 (z.r 7 : Int)) from rfl)
    have c13 := (HG3.out.cell 13).trans (show _ = some (v) from rfl)
    have cl := HG3.out.lt
    have hz := setRow_heap w3 (w.heap.size + 1) thZ (thC z v) 27 (0, 0) HR3.out
    have hbz := HB3.out.trans ((kept_rowT (w := w3) (g := w.heap.size + 1) (thC z v)).below HB3.out.size (fun k hk (e : k = w.heap.size + 1) => by omega))
    have HZ9 : Hid (Lies (w3.setRow (w.heap.size + 1) (thC z v)) (w.heap.size + 1) 27 (thC z v)) := hz
    have HBZ := Lib.hid hbz
    clear hz hbz
    go_wp2_with (refine wpList_store_row rfl 27 _ _ rfl (w.heap.size + 1) (thC z v) rfl rfl 27 thZ HR3.out infoTh rfl (HONE.out z) ?_)
    generalize w3.setRow (w.heap.size + 1) (thC z v) = w9 at *
    clear c0 c1 c2 c3 c4 c5 c6 c7 c8 c9 c10 c11 c12 c13 cl
    clear HR3 HG3 HB3
    have z0 := (HZ9.out.cell 0).trans (show _ = some (Value.int .i64 z.at_) from rfl)
    have z1 := (HZ9.out.cell 1).trans (show _ = some (Value.int .i64 z.ph) from rfl)
    have z2 := (HZ9.out.cell 2).trans (show _ = some (Value.int .i64 z.rg) from rfl)
    have z3 := (HZ9.out.cell 3).trans (show _ = some (Value.int .i64 z.st) from rfl)
    have z4 := (HZ9.out.cell 4).trans (show _ = some (Value.int .u64 (z.tk : Int)) from rfl)
    have z5 := (HZ9.out.cell 5).trans (show _ = some (Value.int .u64 (z.r 0 : Int)) from rfl)
    have z6 := (HZ9.out.cell 6).trans (show _ = some (Value.int .u64 (z.r 1 : Int)) from rfl)
    have z7 := (HZ9.out.cell 7).trans (show _ = some (Value.int .u64 (z.r 2 : Int)) from rfl)
    have z8 := (HZ9.out.cell 8).trans (show _ = some (Value.int .u64 (z.r 3 : Int)) from rfl)
    have z9 := (HZ9.out.cell 9).trans (show _ = some (Value.int .u64 (z.r 4 : Int)) from rfl)
    have z10 := (HZ9.out.cell 10).trans (show _ = some (Value.int .u64 (z.r 5 : Int)) from rfl)
    have z11 := (HZ9.out.cell 11).trans (show _ = some (Value.int .u64 (z.r 6 : Int)) from rfl)
    have z12 := (HZ9.out.cell 12).trans (show _ = some (Value.int .u64 (z.r 7 : Int)) from rfl)
    have z13 := (HZ9.out.cell 13).trans (show _ = some (v) from rfl)
    have zl := HZ9.out.lt
    exact bodyPost_ret (by simp [results, Try.results31, go_sem, z0, z1, z2, z3, z4, z5, z6, z7, z8, z9, z10, z11, z12, z13]) rfl ⟨rfl, HBZ.out⟩
  by_cases o15 : on = 15
  · subst o15
    have hk2 : ik ≤ 256 := HRK.out (by omega)
    have hwk : IntKind.i64.wrap (ik : Int) = (ik : Int) := IntWalk.i64_in _ (by omega)
    have HST : Hid (z = { x with at_ := (ik : Int) }) := by
      show _ = _
      rw [← HZZ.out]
      unfold stepT
      simp
    go_upto_region 12 with (fail)
    have HG3 := Lib.hid (show Lies (w2.setCell ⟨w.heap.size, 0, none⟩ ((.int .i64 (ik:Int)))) w.heap.size 27 (thC z v) from by have := HS2.out.put (0) ((.int .i64 (ik:Int))); (try rw [thC_set _ v ha8] at this); rw [HST.out]; exact this)
    have HR3 := Lib.hid (HR2.out.far (p := ⟨w.heap.size, 0, none⟩) (show w.heap.size + 1 ≠ w.heap.size by omega) ((.int .i64 (ik:Int))))
    have HB3 := Lib.hid (HB2.out.setCell (p := ⟨w.heap.size, 0, none⟩) (show w.heap.size ≤ w.heap.size by omega) ((.int .i64 (ik:Int))))
    clear d0 d1 d2 d3 d5 dl ra rb rc rn rl rf rg
    generalize w2.setCell ⟨w.heap.size, 0, none⟩ (.int .i64 (ik : Int)) = w3 at *
    have c0 := (HG3.out.cell 0).trans (show _ = some (Value.int .i64 z.at_) from rfl)
    have c1 := (HG3.out.cell 1).trans (show _ = some (Value.int .i64 z.ph) from rfl)
    have c2 := (HG3.out.cell 2).trans (show _ = some (Value.int .i64 z.rg) from rfl)
    have c3 := (HG3.out.cell 3).trans (show _ = some (Value.int .i64 z.st) from rfl)
    have c4 := (HG3.out.cell 4).trans (show _ = some (Value.int .u64 (z.tk : Int)) from rfl)
    have c5 := (HG3.out.cell 5).trans (show _ = some (Value.int .u64 (z.r 0 : Int)) from rfl)
    have c6 := (HG3.out.cell 6).trans (show _ = some (Value.int .u64 (z.r 1 : Int)) from rfl)
    have c7 := (HG3.out.cell 7).trans (show _ = some (Value.int .u64 (z.r 2 : Int)) from rfl)
    have c8 := (HG3.out.cell 8).trans (show _ = some (Value.int .u64 (z.r 3 : Int)) from rfl)
    have c9 := (HG3.out.cell 9).trans (show _ = some (Value.int .u64 (z.r 4 : Int)) from rfl)
    have c10 := (HG3.out.cell 10).trans (show _ = some (Value.int .u64 (z.r 5 : Int)) from rfl)
    have c11 := (HG3.out.cell 11).trans (show _ = some (Value.int .u64 (z.r 6 : Int)) from rfl)
    have c12 := (HG3.out.cell 12).trans (show _ = some (Value.int .u64 (z.r 7 : Int)) from rfl)
    have c13 := (HG3.out.cell 13).trans (show _ = some (v) from rfl)
    have cl := HG3.out.lt
    have hz := setRow_heap w3 (w.heap.size + 1) thZ (thC z v) 27 (0, 0) HR3.out
    have hbz := HB3.out.trans ((kept_rowT (w := w3) (g := w.heap.size + 1) (thC z v)).below HB3.out.size (fun k hk (e : k = w.heap.size + 1) => by omega))
    have HZ9 : Hid (Lies (w3.setRow (w.heap.size + 1) (thC z v)) (w.heap.size + 1) 27 (thC z v)) := hz
    have HBZ := Lib.hid hbz
    clear hz hbz
    go_wp2_with (refine wpList_store_row rfl 27 _ _ rfl (w.heap.size + 1) (thC z v) rfl rfl 27 thZ HR3.out infoTh rfl (HONE.out z) ?_)
    generalize w3.setRow (w.heap.size + 1) (thC z v) = w9 at *
    clear c0 c1 c2 c3 c4 c5 c6 c7 c8 c9 c10 c11 c12 c13 cl
    clear HR3 HG3 HB3
    have z0 := (HZ9.out.cell 0).trans (show _ = some (Value.int .i64 z.at_) from rfl)
    have z1 := (HZ9.out.cell 1).trans (show _ = some (Value.int .i64 z.ph) from rfl)
    have z2 := (HZ9.out.cell 2).trans (show _ = some (Value.int .i64 z.rg) from rfl)
    have z3 := (HZ9.out.cell 3).trans (show _ = some (Value.int .i64 z.st) from rfl)
    have z4 := (HZ9.out.cell 4).trans (show _ = some (Value.int .u64 (z.tk : Int)) from rfl)
    have z5 := (HZ9.out.cell 5).trans (show _ = some (Value.int .u64 (z.r 0 : Int)) from rfl)
    have z6 := (HZ9.out.cell 6).trans (show _ = some (Value.int .u64 (z.r 1 : Int)) from rfl)
    have z7 := (HZ9.out.cell 7).trans (show _ = some (Value.int .u64 (z.r 2 : Int)) from rfl)
    have z8 := (HZ9.out.cell 8).trans (show _ = some (Value.int .u64 (z.r 3 : Int)) from rfl)
    have z9 := (HZ9.out.cell 9).trans (show _ = some (Value.int .u64 (z.r 4 : Int)) from rfl)
    have z10 := (HZ9.out.cell 10).trans (show _ = some (Value.int .u64 (z.r 5 : Int)) from rfl)
    have z11 := (HZ9.out.cell 11).trans (show _ = some (Value.int .u64 (z.r 6 : Int)) from rfl)
    have z12 := (HZ9.out.cell 12).trans (show _ = some (Value.int .u64 (z.r 7 : Int)) from rfl)
    have z13 := (HZ9.out.cell 13).trans (show _ = some (v) from rfl)
    have zl := HZ9.out.lt
    exact bodyPost_ret (by simp [results, Try.results31, go_sem, z0, z1, z2, z3, z4, z5, z6, z7, z8, z9, z10, z11, z12, z13]) rfl ⟨rfl, HBZ.out⟩
  by_cases o16 : on = 16
  · subst o16
    have hk2 : ik ≤ 256 := HRK.out (by omega)
    have hwk : IntKind.i64.wrap (ik : Int) = (ik : Int) := IntWalk.i64_in _ (by omega)
    by_cases hz : x.r an = 0
    · have HST : Hid (z = { x with at_ := (ik : Int) }) := by
        show _ = _
        rw [← HZZ.out]
        unfold stepT
        simp [hz]
      have hz1 : ((x.r an : Int) == 0) = true := by rw [beq_iff_eq]; omega
      have hz2 : (x.r an == 0) = true := by rw [beq_iff_eq]; exact hz
      have hz3 : ((x.r an : Int) != 0) = false := by rw [bne_eq_false_iff_eq]; omega
      clear hz
      go_upto_region 12 with (fail)
      have HG3 := Lib.hid (show Lies (w2.setCell ⟨w.heap.size, 0, none⟩ ((.int .i64 (ik:Int)))) w.heap.size 27 (thC z v) from by have := HS2.out.put (0) ((.int .i64 (ik:Int))); (try rw [thC_set _ v ha8] at this); rw [HST.out]; exact this)
      have HR3 := Lib.hid (HR2.out.far (p := ⟨w.heap.size, 0, none⟩) (show w.heap.size + 1 ≠ w.heap.size by omega) ((.int .i64 (ik:Int))))
      have HB3 := Lib.hid (HB2.out.setCell (p := ⟨w.heap.size, 0, none⟩) (show w.heap.size ≤ w.heap.size by omega) ((.int .i64 (ik:Int))))
      clear d0 d1 d2 d3 d5 dl ra rb rc rn rl rf rg
      generalize w2.setCell ⟨w.heap.size, 0, none⟩ (.int .i64 (ik : Int)) = w3 at *
      have c0 := (HG3.out.cell 0).trans (show _ = some (Value.int .i64 z.at_) from rfl)
      have c1 := (HG3.out.cell 1).trans (show _ = some (Value.int .i64 z.ph) from rfl)
      have c2 := (HG3.out.cell 2).trans (show _ = some (Value.int .i64 z.rg) from rfl)
      have c3 := (HG3.out.cell 3).trans (show _ = some (Value.int .i64 z.st) from rfl)
      have c4 := (HG3.out.cell 4).trans (show _ = some (Value.int .u64 (z.tk : Int)) from rfl)
      have c5 := (HG3.out.cell 5).trans (show _ = some (Value.int .u64 (z.r 0 : Int)) from rfl)
      have c6 := (HG3.out.cell 6).trans (show _ = some (Value.int .u64 (z.r 1 : Int)) from rfl)
      have c7 := (HG3.out.cell 7).trans (show _ = some (Value.int .u64 (z.r 2 : Int)) from rfl)
      have c8 := (HG3.out.cell 8).trans (show _ = some (Value.int .u64 (z.r 3 : Int)) from rfl)
      have c9 := (HG3.out.cell 9).trans (show _ = some (Value.int .u64 (z.r 4 : Int)) from rfl)
      have c10 := (HG3.out.cell 10).trans (show _ = some (Value.int .u64 (z.r 5 : Int)) from rfl)
      have c11 := (HG3.out.cell 11).trans (show _ = some (Value.int .u64 (z.r 6 : Int)) from rfl)
      have c12 := (HG3.out.cell 12).trans (show _ = some (Value.int .u64 (z.r 7 : Int)) from rfl)
      have c13 := (HG3.out.cell 13).trans (show _ = some (v) from rfl)
      have cl := HG3.out.lt
      have hz := setRow_heap w3 (w.heap.size + 1) thZ (thC z v) 27 (0, 0) HR3.out
      have hbz := HB3.out.trans ((kept_rowT (w := w3) (g := w.heap.size + 1) (thC z v)).below HB3.out.size (fun k hk (e : k = w.heap.size + 1) => by omega))
      have HZ9 : Hid (Lies (w3.setRow (w.heap.size + 1) (thC z v)) (w.heap.size + 1) 27 (thC z v)) := hz
      have HBZ := Lib.hid hbz
      clear hz hbz
      go_wp2_with (refine wpList_store_row rfl 27 _ _ rfl (w.heap.size + 1) (thC z v) rfl rfl 27 thZ HR3.out infoTh rfl (HONE.out z) ?_)
      generalize w3.setRow (w.heap.size + 1) (thC z v) = w9 at *
      clear c0 c1 c2 c3 c4 c5 c6 c7 c8 c9 c10 c11 c12 c13 cl
      clear HR3 HG3 HB3
      have z0 := (HZ9.out.cell 0).trans (show _ = some (Value.int .i64 z.at_) from rfl)
      have z1 := (HZ9.out.cell 1).trans (show _ = some (Value.int .i64 z.ph) from rfl)
      have z2 := (HZ9.out.cell 2).trans (show _ = some (Value.int .i64 z.rg) from rfl)
      have z3 := (HZ9.out.cell 3).trans (show _ = some (Value.int .i64 z.st) from rfl)
      have z4 := (HZ9.out.cell 4).trans (show _ = some (Value.int .u64 (z.tk : Int)) from rfl)
      have z5 := (HZ9.out.cell 5).trans (show _ = some (Value.int .u64 (z.r 0 : Int)) from rfl)
      have z6 := (HZ9.out.cell 6).trans (show _ = some (Value.int .u64 (z.r 1 : Int)) from rfl)
      have z7 := (HZ9.out.cell 7).trans (show _ = some (Value.int .u64 (z.r 2 : Int)) from rfl)
      have z8 := (HZ9.out.cell 8).trans (show _ = some (Value.int .u64 (z.r 3 : Int)) from rfl)
      have z9 := (HZ9.out.cell 9).trans (show _ = some (Value.int .u64 (z.r 4 : Int)) from rfl)
      have z10 := (HZ9.out.cell 10).trans (show _ = some (Value.int .u64 (z.r 5 : Int)) from rfl)
      have z11 := (HZ9.out.cell 11).trans (show _ = some (Value.int .u64 (z.r 6 : Int)) from rfl)
      have z12 := (HZ9.out.cell 12).trans (show _ = some (Value.int .u64 (z.r 7 : Int)) from rfl)
      have z13 := (HZ9.out.cell 13).trans (show _ = some (v) from rfl)
      have zl := HZ9.out.lt
      exact bodyPost_ret (by simp [results, Try.results31, go_sem, z0, z1, z2, z3, z4, z5, z6, z7, z8, z9, z10, z11, z12, z13]) rfl ⟨rfl, HBZ.out⟩
    · have HST : Hid (z = goOn x) := by
        show _ = _
        rw [← HZZ.out]
        unfold stepT
        simp [hz]
      have hz1 : ((x.r an : Int) == 0) = false := by rw [beq_eq_false_iff_ne]; omega
      have hz2 : (x.r an == 0) = false := by rw [beq_eq_false_iff_ne]; exact hz
      have hz3 : ((x.r an : Int) != 0) = true := by rw [bne_iff_ne]; omega
      clear hz
      go_upto_region 12 with (fail)
      have HG3 := Lib.hid (show Lies w2 w.heap.size 27 (thC z v) from by rw [HST.out]; exact HS2.out)
      have HR3 := HR2
      have HB3 := HB2
      clear d0 d1 d2 d3 d5 dl ra rb rc rn rl rf rg
      have c0 := (HG3.out.cell 0).trans (show _ = some (Value.int .i64 z.at_) from rfl)
      have c1 := (HG3.out.cell 1).trans (show _ = some (Value.int .i64 z.ph) from rfl)
      have c2 := (HG3.out.cell 2).trans (show _ = some (Value.int .i64 z.rg) from rfl)
      have c3 := (HG3.out.cell 3).trans (show _ = some (Value.int .i64 z.st) from rfl)
      have c4 := (HG3.out.cell 4).trans (show _ = some (Value.int .u64 (z.tk : Int)) from rfl)
      have c5 := (HG3.out.cell 5).trans (show _ = some (Value.int .u64 (z.r 0 : Int)) from rfl)
      have c6 := (HG3.out.cell 6).trans (show _ = some (Value.int .u64 (z.r 1 : Int)) from rfl)
      have c7 := (HG3.out.cell 7).trans (show _ = some (Value.int .u64 (z.r 2 : Int)) from rfl)
      have c8 := (HG3.out.cell 8).trans (show _ = some (Value.int .u64 (z.r 3 : Int)) from rfl)
      have c9 := (HG3.out.cell 9).trans (show _ = some (Value.int .u64 (z.r 4 : Int)) from rfl)
      have c10 := (HG3.out.cell 10).trans (show _ = some (Value.int .u64 (z.r 5 : Int)) from rfl)
      have c11 := (HG3.out.cell 11).trans (show _ = some (Value.int .u64 (z.r 6 : Int)) from rfl)
      have c12 := (HG3.out.cell 12).trans (show _ = some (Value.int .u64 (z.r 7 : Int)) from rfl)
      have c13 := (HG3.out.cell 13).trans (show _ = some (v) from rfl)
      have cl := HG3.out.lt
      have hz := setRow_heap w2 (w.heap.size + 1) thZ (thC z v) 27 (0, 0) HR3.out
      have hbz := HB3.out.trans ((kept_rowT (w := w2) (g := w.heap.size + 1) (thC z v)).below HB3.out.size (fun k hk (e : k = w.heap.size + 1) => by omega))
      have HZ9 : Hid (Lies (w2.setRow (w.heap.size + 1) (thC z v)) (w.heap.size + 1) 27 (thC z v)) := hz
      have HBZ := Lib.hid hbz
      clear hz hbz
      go_wp2_with (refine wpList_store_row rfl 27 _ _ rfl (w.heap.size + 1) (thC z v) rfl rfl 27 thZ HR3.out infoTh rfl (HONE.out z) ?_)
      generalize w2.setRow (w.heap.size + 1) (thC z v) = w9 at *
      clear c0 c1 c2 c3 c4 c5 c6 c7 c8 c9 c10 c11 c12 c13 cl
      clear HR3 HG3 HB3
      have z0 := (HZ9.out.cell 0).trans (show _ = some (Value.int .i64 z.at_) from rfl)
      have z1 := (HZ9.out.cell 1).trans (show _ = some (Value.int .i64 z.ph) from rfl)
      have z2 := (HZ9.out.cell 2).trans (show _ = some (Value.int .i64 z.rg) from rfl)
      have z3 := (HZ9.out.cell 3).trans (show _ = some (Value.int .i64 z.st) from rfl)
      have z4 := (HZ9.out.cell 4).trans (show _ = some (Value.int .u64 (z.tk : Int)) from rfl)
      have z5 := (HZ9.out.cell 5).trans (show _ = some (Value.int .u64 (z.r 0 : Int)) from rfl)
      have z6 := (HZ9.out.cell 6).trans (show _ = some (Value.int .u64 (z.r 1 : Int)) from rfl)
      have z7 := (HZ9.out.cell 7).trans (show _ = some (Value.int .u64 (z.r 2 : Int)) from rfl)
      have z8 := (HZ9.out.cell 8).trans (show _ = some (Value.int .u64 (z.r 3 : Int)) from rfl)
      have z9 := (HZ9.out.cell 9).trans (show _ = some (Value.int .u64 (z.r 4 : Int)) from rfl)
      have z10 := (HZ9.out.cell 10).trans (show _ = some (Value.int .u64 (z.r 5 : Int)) from rfl)
      have z11 := (HZ9.out.cell 11).trans (show _ = some (Value.int .u64 (z.r 6 : Int)) from rfl)
      have z12 := (HZ9.out.cell 12).trans (show _ = some (Value.int .u64 (z.r 7 : Int)) from rfl)
      have z13 := (HZ9.out.cell 13).trans (show _ = some (v) from rfl)
      have zl := HZ9.out.lt
      exact bodyPost_ret (by simp [results, Try.results31, go_sem, z0, z1, z2, z3, z4, z5, z6, z7, z8, z9, z10, z11, z12, z13]) rfl ⟨rfl, HBZ.out⟩
  by_cases o17 : on = 17
  · subst o17
    have hk2 : ik ≤ 256 := HRK.out (by omega)
    have hwk : IntKind.i64.wrap (ik : Int) = (ik : Int) := IntWalk.i64_in _ (by omega)
    by_cases hz : x.r an = 0
    · have HST : Hid (z = goOn x) := by
        show _ = _
        rw [← HZZ.out]
        unfold stepT
        simp [hz]
      have hz1 : ((x.r an : Int) == 0) = true := by rw [beq_iff_eq]; omega
      have hz2 : (x.r an == 0) = true := by rw [beq_iff_eq]; exact hz
      have hz3 : ((x.r an : Int) != 0) = false := by rw [bne_eq_false_iff_eq]; omega
      clear hz
      go_upto_region 12 with (fail)
      have HG3 := Lib.hid (show Lies w2 w.heap.size 27 (thC z v) from by rw [HST.out]; exact HS2.out)
      have HR3 := HR2
      have HB3 := HB2
      clear d0 d1 d2 d3 d5 dl ra rb rc rn rl rf rg
      have c0 := (HG3.out.cell 0).trans (show _ = some (Value.int .i64 z.at_) from rfl)
      have c1 := (HG3.out.cell 1).trans (show _ = some (Value.int .i64 z.ph) from rfl)
      have c2 := (HG3.out.cell 2).trans (show _ = some (Value.int .i64 z.rg) from rfl)
      have c3 := (HG3.out.cell 3).trans (show _ = some (Value.int .i64 z.st) from rfl)
      have c4 := (HG3.out.cell 4).trans (show _ = some (Value.int .u64 (z.tk : Int)) from rfl)
      have c5 := (HG3.out.cell 5).trans (show _ = some (Value.int .u64 (z.r 0 : Int)) from rfl)
      have c6 := (HG3.out.cell 6).trans (show _ = some (Value.int .u64 (z.r 1 : Int)) from rfl)
      have c7 := (HG3.out.cell 7).trans (show _ = some (Value.int .u64 (z.r 2 : Int)) from rfl)
      have c8 := (HG3.out.cell 8).trans (show _ = some (Value.int .u64 (z.r 3 : Int)) from rfl)
      have c9 := (HG3.out.cell 9).trans (show _ = some (Value.int .u64 (z.r 4 : Int)) from rfl)
      have c10 := (HG3.out.cell 10).trans (show _ = some (Value.int .u64 (z.r 5 : Int)) from rfl)
      have c11 := (HG3.out.cell 11).trans (show _ = some (Value.int .u64 (z.r 6 : Int)) from rfl)
      have c12 := (HG3.out.cell 12).trans (show _ = some (Value.int .u64 (z.r 7 : Int)) from rfl)
      have c13 := (HG3.out.cell 13).trans (show _ = some (v) from rfl)
      have cl := HG3.out.lt
      have hz := setRow_heap w2 (w.heap.size + 1) thZ (thC z v) 27 (0, 0) HR3.out
      have hbz := HB3.out.trans ((kept_rowT (w := w2) (g := w.heap.size + 1) (thC z v)).below HB3.out.size (fun k hk (e : k = w.heap.size + 1) => by omega))
      have HZ9 : Hid (Lies (w2.setRow (w.heap.size + 1) (thC z v)) (w.heap.size + 1) 27 (thC z v)) := hz
      have HBZ := Lib.hid hbz
      clear hz hbz
      go_wp2_with (refine wpList_store_row rfl 27 _ _ rfl (w.heap.size + 1) (thC z v) rfl rfl 27 thZ HR3.out infoTh rfl (HONE.out z) ?_)
      generalize w2.setRow (w.heap.size + 1) (thC z v) = w9 at *
      clear c0 c1 c2 c3 c4 c5 c6 c7 c8 c9 c10 c11 c12 c13 cl
      clear HR3 HG3 HB3
      have z0 := (HZ9.out.cell 0).trans (show _ = some (Value.int .i64 z.at_) from rfl)
      have z1 := (HZ9.out.cell 1).trans (show _ = some (Value.int .i64 z.ph) from rfl)
      have z2 := (HZ9.out.cell 2).trans (show _ = some (Value.int .i64 z.rg) from rfl)
      have z3 := (HZ9.out.cell 3).trans (show _ = some (Value.int .i64 z.st) from rfl)
      have z4 := (HZ9.out.cell 4).trans (show _ = some (Value.int .u64 (z.tk : Int)) from rfl)
      have z5 := (HZ9.out.cell 5).trans (show _ = some (Value.int .u64 (z.r 0 : Int)) from rfl)
      have z6 := (HZ9.out.cell 6).trans (show _ = some (Value.int .u64 (z.r 1 : Int)) from rfl)
      have z7 := (HZ9.out.cell 7).trans (show _ = some (Value.int .u64 (z.r 2 : Int)) from rfl)
      have z8 := (HZ9.out.cell 8).trans (show _ = some (Value.int .u64 (z.r 3 : Int)) from rfl)
      have z9 := (HZ9.out.cell 9).trans (show _ = some (Value.int .u64 (z.r 4 : Int)) from rfl)
      have z10 := (HZ9.out.cell 10).trans (show _ = some (Value.int .u64 (z.r 5 : Int)) from rfl)
      have z11 := (HZ9.out.cell 11).trans (show _ = some (Value.int .u64 (z.r 6 : Int)) from rfl)
      have z12 := (HZ9.out.cell 12).trans (show _ = some (Value.int .u64 (z.r 7 : Int)) from rfl)
      have z13 := (HZ9.out.cell 13).trans (show _ = some (v) from rfl)
      have zl := HZ9.out.lt
      exact bodyPost_ret (by simp [results, Try.results31, go_sem, z0, z1, z2, z3, z4, z5, z6, z7, z8, z9, z10, z11, z12, z13]) rfl ⟨rfl, HBZ.out⟩
    · have HST : Hid (z = { x with at_ := (ik : Int) }) := by
        show _ = _
        rw [← HZZ.out]
        unfold stepT
        simp [hz]
      have hz1 : ((x.r an : Int) == 0) = false := by rw [beq_eq_false_iff_ne]; omega
      have hz2 : (x.r an == 0) = false := by rw [beq_eq_false_iff_ne]; exact hz
      have hz3 : ((x.r an : Int) != 0) = true := by rw [bne_iff_ne]; omega
      clear hz
      go_upto_region 12 with (fail)
      have HG3 := Lib.hid (show Lies (w2.setCell ⟨w.heap.size, 0, none⟩ ((.int .i64 (ik:Int)))) w.heap.size 27 (thC z v) from by have := HS2.out.put (0) ((.int .i64 (ik:Int))); (try rw [thC_set _ v ha8] at this); rw [HST.out]; exact this)
      have HR3 := Lib.hid (HR2.out.far (p := ⟨w.heap.size, 0, none⟩) (show w.heap.size + 1 ≠ w.heap.size by omega) ((.int .i64 (ik:Int))))
      have HB3 := Lib.hid (HB2.out.setCell (p := ⟨w.heap.size, 0, none⟩) (show w.heap.size ≤ w.heap.size by omega) ((.int .i64 (ik:Int))))
      clear d0 d1 d2 d3 d5 dl ra rb rc rn rl rf rg
      generalize w2.setCell ⟨w.heap.size, 0, none⟩ (.int .i64 (ik : Int)) = w3 at *
      have c0 := (HG3.out.cell 0).trans (show _ = some (Value.int .i64 z.at_) from rfl)
      have c1 := (HG3.out.cell 1).trans (show _ = some (Value.int .i64 z.ph) from rfl)
      have c2 := (HG3.out.cell 2).trans (show _ = some (Value.int .i64 z.rg) from rfl)
      have c3 := (HG3.out.cell 3).trans (show _ = some (Value.int .i64 z.st) from rfl)
      have c4 := (HG3.out.cell 4).trans (show _ = some (Value.int .u64 (z.tk : Int)) from rfl)
      have c5 := (HG3.out.cell 5).trans (show _ = some (Value.int .u64 (z.r 0 : Int)) from rfl)
      have c6 := (HG3.out.cell 6).trans (show _ = some (Value.int .u64 (z.r 1 : Int)) from rfl)
      have c7 := (HG3.out.cell 7).trans (show _ = some (Value.int .u64 (z.r 2 : Int)) from rfl)
      have c8 := (HG3.out.cell 8).trans (show _ = some (Value.int .u64 (z.r 3 : Int)) from rfl)
      have c9 := (HG3.out.cell 9).trans (show _ = some (Value.int .u64 (z.r 4 : Int)) from rfl)
      have c10 := (HG3.out.cell 10).trans (show _ = some (Value.int .u64 (z.r 5 : Int)) from rfl)
      have c11 := (HG3.out.cell 11).trans (show _ = some (Value.int .u64 (z.r 6 : Int)) from rfl)
      have c12 := (HG3.out.cell 12).trans (show _ = some (Value.int .u64 (z.r 7 : Int)) from rfl)
      have c13 := (HG3.out.cell 13).trans (show _ = some (v) from rfl)
      have cl := HG3.out.lt
      have hz := setRow_heap w3 (w.heap.size + 1) thZ (thC z v) 27 (0, 0) HR3.out
      have hbz := HB3.out.trans ((kept_rowT (w := w3) (g := w.heap.size + 1) (thC z v)).below HB3.out.size (fun k hk (e : k = w.heap.size + 1) => by omega))
      have HZ9 : Hid (Lies (w3.setRow (w.heap.size + 1) (thC z v)) (w.heap.size + 1) 27 (thC z v)) := hz
      have HBZ := Lib.hid hbz
      clear hz hbz
      go_wp2_with (refine wpList_store_row rfl 27 _ _ rfl (w.heap.size + 1) (thC z v) rfl rfl 27 thZ HR3.out infoTh rfl (HONE.out z) ?_)
      generalize w3.setRow (w.heap.size + 1) (thC z v) = w9 at *
      clear c0 c1 c2 c3 c4 c5 c6 c7 c8 c9 c10 c11 c12 c13 cl
      clear HR3 HG3 HB3
      have z0 := (HZ9.out.cell 0).trans (show _ = some (Value.int .i64 z.at_) from rfl)
      have z1 := (HZ9.out.cell 1).trans (show _ = some (Value.int .i64 z.ph) from rfl)
      have z2 := (HZ9.out.cell 2).trans (show _ = some (Value.int .i64 z.rg) from rfl)
      have z3 := (HZ9.out.cell 3).trans (show _ = some (Value.int .i64 z.st) from rfl)
      have z4 := (HZ9.out.cell 4).trans (show _ = some (Value.int .u64 (z.tk : Int)) from rfl)
      have z5 := (HZ9.out.cell 5).trans (show _ = some (Value.int .u64 (z.r 0 : Int)) from rfl)
      have z6 := (HZ9.out.cell 6).trans (show _ = some (Value.int .u64 (z.r 1 : Int)) from rfl)
      have z7 := (HZ9.out.cell 7).trans (show _ = some (Value.int .u64 (z.r 2 : Int)) from rfl)
      have z8 := (HZ9.out.cell 8).trans (show _ = some (Value.int .u64 (z.r 3 : Int)) from rfl)
      have z9 := (HZ9.out.cell 9).trans (show _ = some (Value.int .u64 (z.r 4 : Int)) from rfl)
      have z10 := (HZ9.out.cell 10).trans (show _ = some (Value.int .u64 (z.r 5 : Int)) from rfl)
      have z11 := (HZ9.out.cell 11).trans (show _ = some (Value.int .u64 (z.r 6 : Int)) from rfl)
      have z12 := (HZ9.out.cell 12).trans (show _ = some (Value.int .u64 (z.r 7 : Int)) from rfl)
      have z13 := (HZ9.out.cell 13).trans (show _ = some (v) from rfl)
      have zl := HZ9.out.lt
      exact bodyPost_ret (by simp [results, Try.results31, go_sem, z0, z1, z2, z3, z4, z5, z6, z7, z8, z9, z10, z11, z12, z13]) rfl ⟨rfl, HBZ.out⟩
  have hon2 : 3 ≤ on ∧ on ≤ 14 := by omega
  have HST : Hid (z = setR (goOn x) an (doV (on : Int) (x.r bn : Int) (x.r cn : Int)).toNat) := by
    show _ = _
    rw [← HZZ.out]
    unfold stepT
    dsimp only
    rw [if_neg (show ¬ (on : Int) = 1 by omega), if_neg (show ¬ (on : Int) = 2 by omega), if_neg (show ¬ (on : Int) = 15 by omega), if_neg (show ¬ (on : Int) = 16 by omega), if_neg (show ¬ (on : Int) = 17 by omega)]
    simp
  have hub : U64 (x.r bn : Int) := ⟨by omega, by have := HX.out bn; omega⟩
  have huc : U64 (x.r cn : Int) := ⟨by omega, by have := HX.out cn; omega⟩
  have HU := Lib.hid (doV_u64 (on : Int) (x.r bn : Int) (x.r cn : Int) hub huc)
  have HDO := Lib.hid (fun w => ref_any (on : Int) (x.r bn : Int) (x.r cn : Int) w hub huc)
  obtain ⟨un, hun⟩ : ∃ n : Nat, doV (on : Int) (x.r bn : Int) (x.r cn : Int) = n := ⟨(doV (on : Int) (x.r bn : Int) (x.r cn : Int)).toNat, by have := HU.out; unfold U64 at this; omega⟩
  rw [hun, Int.toNat_natCast] at HST
  rw [hun] at HDO
  have e1 : ((on : Int) == 1) = false := by rw [beq_eq_false_iff_ne]; omega
  have e2 : ((on : Int) == 2) = false := by rw [beq_eq_false_iff_ne]; omega
  have e15 : ((on : Int) == 15) = false := by rw [beq_eq_false_iff_ne]; omega
  have e16 : ((on : Int) == 16) = false := by rw [beq_eq_false_iff_ne]; omega
  have e17 : ((on : Int) == 17) = false := by rw [beq_eq_false_iff_ne]; omega
  have e3 : decide ((on : Int) < 15) = true := decide_eq_true (by omega)
  generalize isOp (on : Int) = iso at *
  clear HU hun hub huc o1 o2 o15 o16 o17 hon1 hon2
  go_upto_region 10 with (fail)
  go_quiet ((go_at_call 48; exact quiet_same3 ((HDO.out _)) ⟨_, rfl⟩))
  have HS2 : Hid (Lies (w2.drewN nq) _ _ _) := HS2
  have HR2 : Hid (Lies (w2.drewN nq) _ _ _) := HR2
  have HI2 : Hid (Lies (w2.drewN nq) _ _ _) := HI2
  have HB2 := Lib.hid (below_drewN HB2.out nq)
  have d1 : (w2.drewN nq).cell? _ = _ := d1
  have ra : (w2.drewN nq).cell? _ = _ := ra
  have rf : (w2.drewN nq).frozen? _ = _ := rf
  have rl : _ < (w2.drewN nq).heap.size := rl
  have dl : _ < (w2.drewN nq).heap.size := dl
  clear d0 d2 d3 d5 rb rc rn rg
  generalize w2.drewN nq = w2 at *
  go_upto_region 12 with (fail)
  have HG3 := Lib.hid (show Lies (w2.setCell ⟨w.heap.size, (5+an), none⟩ ((.int .u64 (un:Int)))) w.heap.size 27 (thC z v) from by have := HS2.out.put ((5+an)) ((.int .u64 (un:Int))); (try rw [thC_set _ v ha8] at this); rw [HST.out]; exact this)
  have HR3 := Lib.hid (HR2.out.far (p := ⟨w.heap.size, (5+an), none⟩) (show w.heap.size + 1 ≠ w.heap.size by omega) ((.int .u64 (un:Int))))
  have HB3 := Lib.hid (HB2.out.setCell (p := ⟨w.heap.size, (5+an), none⟩) (show w.heap.size ≤ w.heap.size by omega) ((.int .u64 (un:Int))))
  clear d1 dl ra rl rf
  generalize w2.setCell ⟨w.heap.size, 5 + an, none⟩ (.int .u64 (un : Int)) = w3 at *
  have c0 := (HG3.out.cell 0).trans (show _ = some (Value.int .i64 z.at_) from rfl)
  have c1 := (HG3.out.cell 1).trans (show _ = some (Value.int .i64 z.ph) from rfl)
  have c2 := (HG3.out.cell 2).trans (show _ = some (Value.int .i64 z.rg) from rfl)
  have c3 := (HG3.out.cell 3).trans (show _ = some (Value.int .i64 z.st) from rfl)
  have c4 := (HG3.out.cell 4).trans (show _ = some (Value.int .u64 (z.tk : Int)) from rfl)
  have c5 := (HG3.out.cell 5).trans (show _ = some (Value.int .u64 (z.r 0 : Int)) from rfl)
  have c6 := (HG3.out.cell 6).trans (show _ = some (Value.int .u64 (z.r 1 : Int)) from rfl)
  have c7 := (HG3.out.cell 7).trans (show _ = some (Value.int .u64 (z.r 2 : Int)) from rfl)
  have c8 := (HG3.out.cell 8).trans (show _ = some (Value.int .u64 (z.r 3 : Int)) from rfl)
  have c9 := (HG3.out.cell 9).trans (show _ = some (Value.int .u64 (z.r 4 : Int)) from rfl)
  have c10 := (HG3.out.cell 10).trans (show _ = some (Value.int .u64 (z.r 5 : Int)) from rfl)
  have c11 := (HG3.out.cell 11).trans (show _ = some (Value.int .u64 (z.r 6 : Int)) from rfl)
  have c12 := (HG3.out.cell 12).trans (show _ = some (Value.int .u64 (z.r 7 : Int)) from rfl)
  have c13 := (HG3.out.cell 13).trans (show _ = some (v) from rfl)
  have cl := HG3.out.lt
  have hz := setRow_heap w3 (w.heap.size + 1) thZ (thC z v) 27 (0, 0) HR3.out
  have hbz := HB3.out.trans ((kept_rowT (w := w3) (g := w.heap.size + 1) (thC z v)).below HB3.out.size (fun k hk (e : k = w.heap.size + 1) => by omega))
  have HZ9 : Hid (Lies (w3.setRow (w.heap.size + 1) (thC z v)) (w.heap.size + 1) 27 (thC z v)) := hz
  have HBZ := Lib.hid hbz
  clear hz hbz
  go_wp2_with (refine wpList_store_row rfl 27 _ _ rfl (w.heap.size + 1) (thC z v) rfl rfl 27 thZ HR3.out infoTh rfl (HONE.out z) ?_)
  generalize w3.setRow (w.heap.size + 1) (thC z v) = w9 at *
  clear c0 c1 c2 c3 c4 c5 c6 c7 c8 c9 c10 c11 c12 c13 cl
  clear HR3 HG3 HB3
  have z0 := (HZ9.out.cell 0).trans (show _ = some (Value.int .i64 z.at_) from rfl)
  have z1 := (HZ9.out.cell 1).trans (show _ = some (Value.int .i64 z.ph) from rfl)
  have z2 := (HZ9.out.cell 2).trans (show _ = some (Value.int .i64 z.rg) from rfl)
  have z3 := (HZ9.out.cell 3).trans (show _ = some (Value.int .i64 z.st) from rfl)
  have z4 := (HZ9.out.cell 4).trans (show _ = some (Value.int .u64 (z.tk : Int)) from rfl)
  have z5 := (HZ9.out.cell 5).trans (show _ = some (Value.int .u64 (z.r 0 : Int)) from rfl)
  have z6 := (HZ9.out.cell 6).trans (show _ = some (Value.int .u64 (z.r 1 : Int)) from rfl)
  have z7 := (HZ9.out.cell 7).trans (show _ = some (Value.int .u64 (z.r 2 : Int)) from rfl)
  have z8 := (HZ9.out.cell 8).trans (show _ = some (Value.int .u64 (z.r 3 : Int)) from rfl)
  have z9 := (HZ9.out.cell 9).trans (show _ = some (Value.int .u64 (z.r 4 : Int)) from rfl)
  have z10 := (HZ9.out.cell 10).trans (show _ = some (Value.int .u64 (z.r 5 : Int)) from rfl)
  have z11 := (HZ9.out.cell 11).trans (show _ = some (Value.int .u64 (z.r 6 : Int)) from rfl)
  have z12 := (HZ9.out.cell 12).trans (show _ = some (Value.int .u64 (z.r 7 : Int)) from rfl)
  have z13 := (HZ9.out.cell 13).trans (show _ = some (v) from rfl)
  have zl := HZ9.out.lt
  exact bodyPost_ret (by simp [results, Try.results31, go_sem, z0, z1, z2, z3, z4, z5, z6, z7, z8, z9, z10, z11, z12, z13]) rfl ⟨rfl, HBZ.out⟩
end Go.Proofs.Ytiegmpjoiekekaa
