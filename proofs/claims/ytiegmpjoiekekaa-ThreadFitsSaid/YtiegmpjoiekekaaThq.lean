/-
  What a thread asks for (layer 16): thread.request.
-/
import Derived.Test.YtiegmpjoiekekaaThv
import Derived.Test.YtiegmpjoiekekaaThg
namespace Go.Proofs.Ytiegmpjoiekekaa
open Go.RowKit
set_option linter.unusedVariables false
set_option linter.unusedSimpArgs false
/-- What a thread that stands there asks for. -/
def reqA (l : List In) (x : Th) : Ak :=
  if x.st ≠ 0 then noneA 0
  else if x.at_ = (l.length : Int) then noneA 8
  else if x.ph = 1 then ⟨10, x.rg, 0, 0, x.tk, x.r (atT l x).a.toNat⟩
  else if x.ph = 2 then ⟨11, x.rg, 0, wrap64 ((atT l x).k : Int), x.tk, 0⟩
  else if (decide (1 ≤ (atT l x).op) && decide ((atT l x).op ≤ 17)) = true then noneA 9
  else visA (atT l x) x
theorem reqA_st {l : List In} {x : Th} (h : x.st ≠ 0) : reqA l x = noneA 0 := by unfold reqA; rw [if_pos h]
theorem reqA_end {l : List In} {x : Th} (h : x.st = 0) (h2 : x.at_ = (l.length : Int)) : reqA l x = noneA 8 := by unfold reqA; rw [if_neg (by omega), if_pos h2]
theorem reqA_in {l : List In} {x : Th} {i : In} (h : x.st = 0) (h2 : x.at_ ≠ (l.length : Int)) (ha : atT l x = i) : reqA l x = if x.ph = 1 then ⟨10, x.rg, 0, 0, x.tk, x.r i.a.toNat⟩ else if x.ph = 2 then ⟨11, x.rg, 0, wrap64 (i.k : Int), x.tk, 0⟩ else if (decide (1 ≤ i.op) && decide (i.op ≤ 17)) = true then noneA 9 else visA i x := by
  unfold reqA; rw [if_neg (by omega), if_neg h2, ha]
theorem ak_put {W : World} {g : Nat} {T : TypeId} {z0 z1 z2 z3 z4 z5 : Value} (h : Lies W g T #[z0, z1, z2, z3, z4, z5]) (y : Ak) :
    Lies ((((((W.setCell ⟨g, 0, none⟩ (.int .i64 y.kd)).setCell ⟨g, 1, none⟩ (.int .i64 y.rg)).setCell ⟨g, 2, none⟩ (.int .i64 y.md)).setCell ⟨g, 3, none⟩ (.int .i64 y.rd)).setCell ⟨g, 4, none⟩ (.int .u64 (y.tk : Int))).setCell ⟨g, 5, none⟩ (.int .u64 (y.vl : Int))) g T (akC y) :=
  (((((h.put 0 _).put 1 _).put 2 _).put 3 _).put 4 _).put 5 _
theorem ak_below {W : World} {B g : Nat} {a : World} (h : Below B a W) (hg : B ≤ g) (y : Ak) :
    Below B a ((((((W.setCell ⟨g, 0, none⟩ (.int .i64 y.kd)).setCell ⟨g, 1, none⟩ (.int .i64 y.rg)).setCell ⟨g, 2, none⟩ (.int .i64 y.md)).setCell ⟨g, 3, none⟩ (.int .i64 y.rd)).setCell ⟨g, 4, none⟩ (.int .u64 (y.tk : Int))).setCell ⟨g, 5, none⟩ (.int .u64 (y.vl : Int))) :=
  (((((h.setCell (p := ⟨g, 0, none⟩) hg _).setCell (p := ⟨g, 1, none⟩) hg _).setCell (p := ⟨g, 2, none⟩) hg _).setCell (p := ⟨g, 3, none⟩) hg _).setCell (p := ⟨g, 4, none⟩) hg _).setCell (p := ⟨g, 5, none⟩) hg _
set_option maxHeartbeats 8000000 in
set_option maxRecDepth 100000 in
theorem request16 (l : List In) (A : Option Addr) (c : Nat) (x : Th) (v : Value) (w : World) (h : InsAt w A c l) (hcd : codeB l = true) (hx : 0 ≤ x.at_ ∧ x.at_ ≤ (l.length : Int)) (h18 : x.st = 0 → x.ph = 1 → (atT l x).op = 18) :
    Calls Try.prog 25 #[.slice A l.length c, .agg (thC x v)] w fun e w' => e = .returned (.agg (akC (reqA l x))) ∧ Below w.heap.size w w' := by
  obtain ⟨hc1, hc2⟩ := seq_form h
  obtain ⟨hlen, hall⟩ := codeB_parts hcd
  have hb0 : Below w.heap.size w (w.alloc (.cells (thC x v) 27)) := (Below.refl _ _).alloc (Nat.le_refl _) _
  have l0 := Lies.made w 27 (thC x v)
  have HH := Lib.hid h
  have HBO := Lib.hid (fun o => hb0.alloc (by simp) o)
  have HLO := Lib.hid (fun o => l0.alloc o)
  have HALL := Lib.hid hall
  have H18 := Lib.hid h18
  clear h hb0 l0 hcd hall h18
  by_cases hst : x.st = 0
  case neg =>
    have e0 : (x.st != 0) = true := by rw [bne_iff_ne]; exact hst
    have HE := Lib.hid (reqA_st (l := l) hst)
    clear hst
    go_enter Try.func25, Try.ntmps25
    go_wp2
    exact bodyPost_ret (by simp [results, Try.results25, go_sem]; rfl) rfl ⟨by rw [HE.out]; rfl, HBO.out _⟩
  have e0 : (x.st != 0) = false := by rw [bne_eq_false_iff_eq]; exact hst
  by_cases hat : x.at_ = (l.length : Int)
  · have e1 : (x.at_ == (l.length : Int)) = true := by rw [beq_iff_eq]; exact hat
    have HE := Lib.hid (reqA_end (l := l) hst hat)
    clear hst hat
    go_enter Try.func25, Try.ntmps25
    go_wp2
    exact bodyPost_ret (by simp [results, Try.results25, go_sem]; rfl) rfl ⟨by rw [HE.out]; rfl, HBO.out _⟩
  have e1 : (x.at_ == (l.length : Int)) = false := by rw [beq_eq_false_iff_ne]; exact hat
  obtain ⟨an, han⟩ : ∃ n : Nat, x.at_ = n := ⟨x.at_.toNat, by omega⟩
  obtain ⟨i, hi⟩ : ∃ i, l[an]? = some i := ⟨_, List.getElem?_eq_getElem (by omega)⟩
  have hgt := atT_get han hi
  have HM := Lib.hid (List.mem_of_getElem? hi)
  obtain ⟨b, off, rfl, hbl, hg⟩ := InsAt.at_ HH.out hi
  have HG := Lib.hid (fun (q : World) (hq : Below w.heap.size w q) (j : Nat) (u : Value) (hj : j < 6) (hu : (inF i)[j]? = some u) => cell_later (hg j u hj hu) hq)
  have hal : (an : Int) < (l.length : Int) := by omega
  have HE := Lib.hid (reqA_in hst hat hgt)
  have H18B : Hid (x.ph = 1 → i.op = 18) := fun e => by rw [← hgt]; exact H18.out hst e
  clear H18
  have HR := Lib.hid (HALL.out i HM.out).1
  clear hgt hst hat hi hg HALL
  obtain ⟨xa, xp, xr, xs, xt, xg, xn⟩ := x
  have han : xa = an := han
  subst han
  obtain ⟨iop, ia, ib, ic, id, ik⟩ := i
  have HB := Lib.hid (HBO.out (.cells #[.int .i64 0, .int .i64 0, .int .i64 0, .int .i64 0, .int .u64 0, .int .u64 0] 31))
  have HB3 := Lib.hid (fun o => (HBO.out o).alloc (o := .cells (inC ⟨iop, ia, ib, ic, id, ik⟩) 50) (by simp; omega))
  have l3 := (HLO.out (.cells #[.int .i64 0, .int .i64 0, .int .i64 0, .int .i64 0, .int .u64 0, .int .u64 0] 31)).alloc (.cells (inC ⟨iop, ia, ib, ic, id, ik⟩) 50)
  have HL3 := Lib.hid l3
  clear l3 HLO HBO
  have g0 := HG.out _ (HB).out 0 _ (by decide) rfl
  have g1 := HG.out _ (HB).out 1 _ (by decide) rfl
  have g2 := HG.out _ (HB).out 2 _ (by decide) rfl
  have g3 := HG.out _ (HB).out 3 _ (by decide) rfl
  have g4 := HG.out _ (HB).out 4 _ (by decide) rfl
  have g5 := HG.out _ (HB).out 5 _ (by decide) rfl
  rw [Nat.add_zero] at g0
  by_cases hp1 : xp = 1
  · have e2 : (xp == 1) = true := by rw [beq_iff_eq]; exact hp1
    have hreg := vis_reg HR.out (.inl (H18B.out hp1))
    have hreg : 0 ≤ ia ∧ ia ≤ 7 := hreg
    obtain ⟨ian, hian⟩ : ∃ n : Nat, ia = n := ⟨ia.toNat, by omega⟩
    have ha8 : ian < 8 := by omega
    have HE2 := Lib.hid (HE.out.trans (if_pos hp1))
    subst hian
    have ra := (HL3.out.cell (5 + ian)).trans (thC_reg _ v ha8)
    have HRA := Lib.hid ra
    clear hreg hp1 HE H18B HR ra
    go_enter Try.func25, Try.ntmps25
    go_upto_region 7 with (fail)
    have ra := HRA.out
    clear g0 g1 g2 g3 g4 g5
    go_region
    go_wp2
    exact bodyPost_ret (by simp [results, Try.results25, go_sem]; rfl) rfl ⟨by rw [HE2.out]; rfl, (HB3.out _).drew⟩
  have e2 : (xp == 1) = false := by rw [beq_eq_false_iff_ne]; exact hp1
  have HE2 := Lib.hid (HE.out.trans (if_neg hp1))
  clear HE hp1 H18B
  by_cases hp2 : xp = 2
  · have e3 : (xp == 2) = true := by rw [beq_iff_eq]; exact hp2
    have HE3 := Lib.hid (HE2.out.trans (if_pos hp2))
    clear hp2 HE2
    go_enter Try.func25, Try.ntmps25
    go_wp2
    exact bodyPost_ret (by simp [results, Try.results25, go_sem]; rfl) rfl ⟨by rw [HE3.out]; rfl, HB3.out _⟩
  have e3 : (xp == 2) = false := by rw [beq_eq_false_iff_ne]; exact hp2
  have HE3 := Lib.hid (HE2.out.trans (if_neg hp2))
  have HPL := Lib.hid (fun w => plain_any iop w)
  have HVS := Lib.hid (fun q => visible16 ⟨iop, ia, ib, ic, id, ik⟩ ⟨an, xp, xr, xs, xt, xg, xn⟩ v q HR.out)
  clear HE2 hp2
  obtain ⟨pb, hpb⟩ : ∃ b, (decide (1 ≤ iop) && decide (iop ≤ 17)) = b := ⟨_, rfl⟩
  rw [hpb] at HPL
  have HE4 := HE3.out
  rw [show (decide (1 ≤ (In.mk iop ia ib ic id ik).op) && decide ((In.mk iop ia ib ic id ik).op ≤ 17)) = pb from hpb] at HE4
  cases pb with
  | true =>
    have HE5 := Lib.hid (HE4.trans (if_pos rfl))
    clear HE3 HE4 hpb
    go_enter Try.func25, Try.ntmps25
    go_wp2_with fail
    refine (HPL.out _).mono ?_
    rintro e w3 ⟨rfl, rfl⟩
    go_wp2
    exact bodyPost_ret (by simp [results, Try.results25, go_sem]; rfl) rfl ⟨by rw [HE5.out]; rfl, HB3.out _⟩
  | false =>
    have HE5 := Lib.hid (HE4.trans (if_neg (by decide)))
    clear HE3 HE4 hpb
    go_enter Try.func25, Try.ntmps25
    go_wp2_with fail
    refine (HPL.out _).mono ?_
    rintro e w3 ⟨rfl, rfl⟩
    go_wp2_with fail
    have hb6 := HB3.out (.cells #[.int .i64 0, .int .i64 0, .int .i64 0, .int .i64 0, .int .u64 0, .int .u64 0] 31)
    have l6 := (Lies.made (w.alloc (.cells (thC ⟨an, xp, xr, xs, xt, xg, xn⟩ v) 27)) 31 #[.int .i64 0, .int .i64 0, .int .i64 0, .int .i64 0, .int .u64 0, .int .u64 0]).alloc (.cells (inC ⟨iop, ia, ib, ic, id, ik⟩) 50)
    rw [show (w.alloc (.cells (thC ⟨an, xp, xr, xs, xt, xg, xn⟩ v) 27)).heap.size = w.heap.size + 1 by simp] at l6
    refine (HVS.out _).mono ?_
    rintro e w5 ⟨rfl, hbm⟩
    have hb7 := hb6.trans (hbm.mono (by simp; omega))
    have l7 := l6.below hbm l6.lt
    have HB7 := Lib.hid hb7
    have HL7 := Lib.hid l7
    have HF7 := Lib.hid l7.free
    clear hb6 l6 hbm hb7 l7 HB3 HL3 HVS HPL HB HG
    generalize visA ⟨iop, ia, ib, ic, id, ik⟩ ⟨an, xp, xr, xs, xt, xg, xn⟩ = y at *
    obtain ⟨y0, y1, y2, y3, y4, y5⟩ := y
    have r0 := HL7.out.cell 0
    have r1 := HL7.out.cell 1
    have r2 := HL7.out.cell 2
    have r3 := HL7.out.cell 3
    have r4 := HL7.out.cell 4
    have r5 := HL7.out.cell 5
    simp at r0 r1 r2 r3 r4 r5
    have f0 := HF7.out 0
    have f1 := HF7.out 1
    have f2 := HF7.out 2
    have f3 := HF7.out 3
    have f4 := HF7.out 4
    have f5 := HF7.out 5
    have rl := HL7.out.lt
    clear g0 g1 g2 g3 g4 g5
    have hz := ak_put HL7.out ⟨y0, y1, y2, y3, y4, y5⟩
    have hbz := ak_below HB7.out (show w.heap.size ≤ w.heap.size + 1 by omega) ⟨y0, y1, y2, y3, y4, y5⟩
    go_wp2
    generalize ((((((w5.setCell ⟨w.heap.size + 1, 0, none⟩ (.int .i64 y0)).setCell ⟨w.heap.size + 1, 1, none⟩ (.int .i64 y1)).setCell ⟨w.heap.size + 1, 2, none⟩ (.int .i64 y2)).setCell ⟨w.heap.size + 1, 3, none⟩ (.int .i64 y3)).setCell ⟨w.heap.size + 1, 4, none⟩ (.int .u64 (y4 : Int))).setCell ⟨w.heap.size + 1, 5, none⟩ (.int .u64 (y5 : Int))) = w9 at *
    have z0 := hz.cell 0
    have z1 := hz.cell 1
    have z2 := hz.cell 2
    have z3 := hz.cell 3
    have z4 := hz.cell 4
    have z5 := hz.cell 5
    have zl := hz.lt
    simp at z0 z1 z2 z3 z4 z5
    exact bodyPost_ret (by simp [results, Try.results25, go_sem, z0, z1, z2, z3, z4, z5]; rfl) rfl ⟨by rw [HE5.out], hbz⟩
end Go.Proofs.Ytiegmpjoiekekaa
