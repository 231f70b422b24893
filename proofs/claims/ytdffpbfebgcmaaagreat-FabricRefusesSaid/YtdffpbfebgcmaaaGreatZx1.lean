import Derived.WalkKit
import Derived.ProofKit
import Derived.Lib.Hide
import Derived.Lib.AppendStr
import Derived.Lib.SlBytesRow
import Derived.Laws.AppendOwnNone
import Derived.Deep.AppendLies
import Derived.Deep.Draws
import Derived.BigQuiet
import Derived.Deep.QuietTactic
import Derived.Deep.RegionWith
import Derived.OpenShut
import Derived.Outline
import Derived.Deep.Slices
import Derived.ChangeSame
import Derived.Laws.IdiomStrings
import Derived.SliceStrings
import Derived.Laws.DeepStrings4
import Derived.SizedLaws
import Derived.Laws.OwnMore
import Derived.Test.YtdffpbfebgcmaaaGreatRows
import Derived.Deep.OwnRows
import Derived.Laws.StructEq
import Derived.RegionTactic
import Derived.Laws.Bits64
import Derived.Laws.Bits64b
import Derived.Deep.DeepCutAuto
import Derived.IntWalk
import Derived.Deep.RegionHeld
import Derived.Lib.SliceRun
import Derived.Deep.RegionLaw
import Derived.StillTailTactics
import Derived.Deep.MidRow
import Derived.Great.BuildSlice
import Derived.ChangeKeysEq
import Derived.ShutString
import Derived.ChangeOld
import Derived.Below
import Derived.Test.YtdffpbfebgcmaaaGreatZz6
namespace Go.Proofs.YtdffpbfebgcmaaaGreat
open Go.RowKit
set_option linter.unusedVariables false
set_option linter.unusedSimpArgs false
theorem slotHeld : Tryz.prog.stoodInHeld 90 = false := by kernel_rfl
theorem slotGuard : Tryz.prog.eqGuardType Tryz.prog.depth 90 = false := by kernel_rfl
theorem slotNeq (x y : Sl) (w : World) : (binOp .neq 90 (.agg #[.int .u64 (x.s : Int), .int .u64 (x.v : Int), .int .i64 x.l]) (.agg #[.int .u64 (y.s : Int), .int .u64 (y.v : Int), .int .i64 y.l])).run Tryz.prog w = .ok (.bool (!(decide (x = y)))) w := by
 have h1 := slotHeld
 rw [run_neq_struct, run_equalIn_agg w 9999 _ _ _ (by simp only [Program.fieldsOf, Tryz.underlying90]) h1]
 simp only [Program.fieldsOf, Tryz.underlying90]
 obtain ⟨a, b, c⟩ := x
 obtain ⟨a', b', c'⟩ := y
 simp [go_sem]
 by_cases e1 : a = a'
 ·by_cases e2 : b = b'
  ·by_cases e3 : c = c' <;> simp [e1, e2, e3]
  ·simp [e1, e2]; try omega
 ·simp [e1]; try omega
set_option maxHeartbeats 1000000 in
set_option maxRecDepth 100000 in
theorem ref12Same (v1 v2 : Value) (L M : List Sl) (n1 n2 : Nat) (w : World) (h1 : SeqS w 3 v1 n1 (rowsOf slF L)) (h2 : SeqS w 3 v2 n2 (rowsOf slF M)) :
  Calls Tryz.prog 70 #[v1, v2] w fun e w' => e = .returned (.bool (decide (L = M))) ∧ ∃ n, w' = w.drewN n := by
 have hl1 := h1.len_ slF_length (by decide)
 have hl2 := h2.len_ slF_length (by decide)
 obtain ⟨A1, c1, rfl, q1, q2, _⟩ := h1.form
 obtain ⟨A2, c2, rfl, q3, q4, _⟩ := h2.form
 subst hl1 hl2
 unfold maxLen at q2 q4
 by_cases hne : L.length = M.length
 ·have e0 : (L.length == M.length) = true := by rw [beq_iff_eq]; exact hne
  have H1 := Lib.hid h1
  have H2 := Lib.hid h2
  have hnei : (L.length : Int) = (M.length : Int) := by omega
  clear h1 h2
  go_enter Tryz.func70, Tryz.ntmps70
  go_wp2
  go_loopw [5] (fun u wr => ∃ k : Nat, k ≤ L.length ∧ u = .int .i64 k ∧ L.take k = M.take k ∧ ∃ n, wr = w.drewN n) (fun u _ => L.length - (intOf u).toNat)
  case atStart => exact ⟨0, by omega, rfl, rfl, 0, rfl⟩
  case round =>
   obtain ⟨k, hk, rfl, htk, nd, rfl⟩ := hrel
   by_cases hlt : k < L.length
   ·have hd : decide (k < L.length) = true := by simpa using hlt
    have hd2 : (k : Int) < (M.length : Int) := by omega
    have hd3 : (k : Int) < (L.length : Int) := by omega
    obtain ⟨x, hx⟩ : ∃ x, L[k]? = some x := ⟨_, List.getElem?_eq_getElem hlt⟩
    obtain ⟨y, hy⟩ : ∃ y, M[k]? = some y := ⟨_, List.getElem?_eq_getElem (by omega)⟩
    obtain ⟨b1, o1, rfl, _, g1⟩ := SeqS.at_ slF_length (by decide) H1.out hx
    obtain ⟨b2, o2, rfl, _, g2⟩ := SeqS.at_ slF_length (by decide) H2.out hy
    have c0 := g1 0 _ (by decide) rfl
    have c1 := g1 1 _ (by decide) rfl
    have c2 := g1 2 _ (by decide) rfl
    have d0 := g2 0 _ (by decide) rfl
    have d1 := g2 1 _ (by decide) rfl
    have d2 := g2 2 _ (by decide) rfl
    rw [Nat.add_zero] at c0 d0
    have HX := Lib.hid hx
    have HY := Lib.hid hy
    have HT := Lib.hid htk
    clear g1 g2 hx hy htk
    have hg := slotGuard
    have hq := slotNeq x y
    have HTK := fun (e : x = y) => Lib.hid (show L.take (k + 1) = M.take (k + 1) by rw [List.take_add_one, List.take_add_one, HT.out, HX.out, HY.out, e])
    have HNE := fun (e : ¬ x = y) => Lib.hid (show decide (L = M) = false by
     rw [decide_eq_false_iff_not]; intro e2
     have h1 := HX.out
     rw [e2, HY.out] at h1
     exact e (Option.some.inj h1).symm)
    by_cases hxy : x = y
    ·have HTK2 := HTK hxy
     rw [decide_eq_true hxy] at hq
     clear HTK HNE hxy
     go_wp2
     go_quiet (fail)
     go_wp2
     go_roundw
     case rel => exact ⟨k + 1, by omega, by go_num, HTK2.out, _, rfl⟩
     case measure => simp [intOf]; omega
    ·have HNE2 := HNE hxy
     rw [decide_eq_false hxy] at hq
     clear HTK HNE hxy
     go_wp2
     go_quiet (fail)
     go_wp2
     go_ret
     exact ⟨ret_bool (by rw [HNE2.out]), _, by rw [World.drewN_drewN]⟩
   ·obtain rfl : k = L.length := by omega
    have hd : decide (L.length < L.length) = false := by simp
    rw [List.take_of_length_le (Nat.le_refl _), List.take_of_length_le (by omega)] at htk
    have HE := Lib.hid (show decide (L = M) = true from decide_eq_true htk)
    clear htk
    go_wp2
    go_ret
    exact ⟨ret_bool (by rw [HE.out]), _, rfl⟩
 ·have e0 : (L.length == M.length) = false := by rw [beq_eq_false_iff_ne]; exact hne
  have HE := Lib.hid (show decide (L = M) = false by rw [decide_eq_false_iff_not]; exact fun e => hne (by rw [e]))
  clear h1 h2 hne
  go_enter Tryz.func70, Tryz.ntmps70
  go_wp2
  go_ret
  exact ⟨ret_bool (by rw [HE.out]), 0, rfl⟩
structure TwAt (B F G : Nat) (f g : Fb) (k j : Nat) (zf zg : Fv) (q : World) : Prop where
 ff : FabAt q B F f zf
 fg : FbGood f k
 gf : FabAt q B G g zg
 gg : FbGood g j
 apart : ∀ r, FpOf F zf r → ¬ FpOf G zg r
section
variable {B F G k j : Nat} {f g f' g' : Fb} {zf zg : Fv} {q q' : World} {e : Ev} {E : Int} {r : Ending}
theorem FabAt.keptA {S : Nat → Prop} (h : FabAt q B F f zf) (kp : Kept S q q') (hS : ∀ r e cur, Lies q r e cur → S r → ¬ FpOf F zf r ∧ FbTy e) : FabAt q' B F f zf := by
 have ty : ∀ e, FbTy e → e ≠ 84 ∧ e ≠ 78 ∧ e ≠ 122 := fun e h => by
  rcases h with rfl | rfl | rfl | rfl | rfl <;> decide
 have no : ∀ {r e cur}, Lies q r e cur → FpOf F zf r → ¬ S r := fun hl hf hs => (hS _ _ _ hl hs).1 hf
 refine ⟨h.box.kept kp (no h.box (.inl rfl)), h.pg.kept kp (fun r e cur he hl hs => by have := ty e (hS r e cur hl hs).2; rcases he with rfl | rfl | rfl; exact this.1 rfl; exact this.2.1 rfl; exact this.2.2 rfl), owns_kept h.tr kp (fun r cur hr hl => no hl (.inr (.inl hr))), h.sr.kept kp (fun r a hr hl => no hl (.inr (.inr (.inl hr)))) (fun u r a hu hr hl => no hl (.inr (.inr (.inr (.inr ⟨u, hu, hr⟩))))), ?_, h.hB⟩
 obtain ⟨ms, e, h1⟩ := h.lr
 exact ⟨ms, e, h1.kept kp (fun r cur hr hl => no hl (.inr (.inr (.inr (.inl hr)))))⟩
theorem TwAt.later (h : TwAt B F G f g k j zf zg q) (hb : Below q.heap.size q q') : TwAt B F G f g k j zf zg q' := ⟨h.ff.later hb, h.fg, h.gf.later hb, h.gg, h.apart⟩
theorem TwAt.swap (h : TwAt B F G f g k j zf zg q) : TwAt B G F g f j k zg zf q := ⟨h.gf, h.gg, h.ff, h.fg, fun r h1 h2 => h.apart r h2 h1⟩
theorem TwAt.first (h : TwAt B F G f g k j zf zg q) (hp : DgPost q B F zf k E f' r q') : r = .returned (.int .i64 E) ∧ Below B q q' ∧ (∀ b T cs, Lies q b T cs → ¬ FbTy T → Lies q' b T cs) ∧ ∃ z', TwAt B F G f' g (k + 1) j z' zg q' := by
 obtain ⟨h1, z', h2, h3, h4, h5⟩ := hp
 have hB : B ≤ q.heap.size := Nat.le_trans h.ff.hB (Nat.le_of_lt h.ff.lt)
 refine ⟨h1, h4.below hB (fun r hr hs => by have := (fb_types h.ff hs).1; omega), fun b T cs hl hT => hl.kept h4 (fun hs => ?_), z', h2, h3, h.gf.keptA h4 (fun r e cur hl hs => ⟨h.apart r hs, ?_⟩), h.gg, fun r hr hg => ?_⟩
 ·obtain ⟨_, e2, c2, h6, h7⟩ := fb_types h.ff hs
  rw [(h6.same hl).1] at h7
  exact hT h7
 ·obtain ⟨_, e2, c2, h6, h7⟩ := fb_types h.ff hs
  rw [(h6.same hl).1] at h7
  exact h7
 ·rcases h5 r hr with h5 | h5
  ·exact h.apart r h5 hg
  ·obtain ⟨_, e2, c2, h6, _⟩ := fb_types h.gf hg
   have := h6.lt
   omega
end
theorem fed_of_can {f : Fb} {e : Ev} {a : Ak} (h : canF f e a = true) : fedF f e a = true := by
 unfold canF at h
 by_cases k1 : e.kd = 1
 ·rw [if_pos k1, Bool.and_eq_true] at h; exact h.2
 rw [if_neg k1] at h
 by_cases k5 : e.kd = 5 ∨ e.kd = 7
 ·unfold fedF
  rw [if_neg (by omega), if_neg (by omega), if_neg (by omega), if_neg (by omega), if_neg (by omega)]
 rw [if_neg k5] at h
 by_cases k6 : e.kd = 6
 ·unfold fedF
  rw [if_neg (by omega), if_neg (by omega), if_neg (by omega), if_neg (by omega), if_neg (by omega)]
 rw [if_neg k6] at h
 by_cases k8 : e.kd = 8
 ·unfold fedF
  rw [if_neg (by omega), if_neg (by omega), if_neg (by omega), if_neg (by omega), if_neg (by omega)]
 rw [if_neg k8] at h
 by_cases k10 : e.kd = 10
 ·unfold fedF
  rw [if_neg (by omega), if_neg (by omega), if_neg (by omega), if_neg (by omega), if_neg (by omega)]
 rwa [if_neg k10] at h
theorem alw_does {f : Fb} {e : Ev} (h : alwB f e = true) : fdoE f e = 0 ∧ feedE f e = 0 ∧ feedF f e = doF f e := by
 have h0 := h
 unfold alwB at h
 rw [Bool.and_eq_true, Bool.and_eq_true, decide_eq_true_eq] at h
 obtain ⟨⟨h1, h2⟩, h3⟩ := h
 have e1 : fdoE f e = 0 := by unfold fdoE; rw [if_pos h1, if_pos h0]
 have e2 : feedE f e = 0 := by unfold feedE; rw [if_pos h1, if_pos h2, if_pos (fed_of_can h3)]
 exact ⟨e1, e2, by unfold feedF doF; rw [if_pos e1, if_pos e2]⟩
theorem alw_not {f : Fb} {e : Ev} (h : alwB f e = false) : fdoE f e ≠ 0 ∧ doF f e = f := by
 have e1 : fdoE f e ≠ 0 := by
  unfold fdoE
  by_cases h1 : namesF f e = 0
  ·rw [if_pos h1, h]; decide
  ·rw [if_neg h1]; exact h1
 exact ⟨e1, by unfold doF; rw [if_neg e1]⟩
def regB (x y : Nat → Nat) : Bool := (x 0 == y 0) && ((x 1 == y 1) && ((x 2 == y 2) && ((x 3 == y 3) && ((x 4 == y 4) && ((x 5 == y 5) && ((x 6 == y 6) && (x 7 == y 7)))))))
abbrev regC (x : Nat → Nat) : Array Value := #[.int .u64 (x 0 : Int), .int .u64 (x 1 : Int), .int .u64 (x 2 : Int), .int .u64 (x 3 : Int), .int .u64 (x 4 : Int), .int .u64 (x 5 : Int), .int .u64 (x 6 : Int), .int .u64 (x 7 : Int)]
theorem under8 : Tryz.prog.underlying 60 = some (.array 8 37) := by kernel_rfl
theorem cells1 : Tryz.prog.cellsOf 37 = 1 := by kernel_rfl
theorem intEqN (a b : Nat) : ((a : Int) == (b : Int)) = (a == b) := by rw [Bool.eq_iff_iff, beq_iff_eq, beq_iff_eq]; omega
set_option maxHeartbeats 2000000 in
theorem regsEql (x y : Nat → Nat) (w : World) : (binOp .eql 60 (.agg (regC x)) (.agg (regC y))).run Tryz.prog w = .ok (.bool (regB x y)) w := by
 obtain ⟨i0, hi, _, _, _⟩ := info_parts Tryz.info64
 rw [run_eql_struct, run_equalIn_array w 9999 _ _ under8 hi, cells1]
 rw [show List.range 8 = [0, 1, 2, 3, 4, 5, 6, 7] from rfl]
 have hp : ∀ (l : Array Value) (k : Nat) (a : Int) (q : World), l[k]? = some (.int .u64 a) → (part 37 l (k * 1)).run Tryz.prog q = .ok (.int .u64 a) q := by
  intro l k a q h
  have hu : Tryz.prog.underlying 37 = some (.int .u64) := by kernel_rfl
  simp [part, isAgg, run_underlying hu, h]
 have hu : Tryz.prog.underlying 37 = some (.int .u64) := by kernel_rfl
 have a0 := fun q => hp (regC x) 0 (x 0) q rfl
 have a1 := fun q => hp (regC x) 1 (x 1) q rfl
 have a2 := fun q => hp (regC x) 2 (x 2) q rfl
 have a3 := fun q => hp (regC x) 3 (x 3) q rfl
 have a4 := fun q => hp (regC x) 4 (x 4) q rfl
 have a5 := fun q => hp (regC x) 5 (x 5) q rfl
 have a6 := fun q => hp (regC x) 6 (x 6) q rfl
 have a7 := fun q => hp (regC x) 7 (x 7) q rfl
 have b0 := fun q => hp (regC y) 0 (y 0) q rfl
 have b1 := fun q => hp (regC y) 1 (y 1) q rfl
 have b2 := fun q => hp (regC y) 2 (y 2) q rfl
 have b3 := fun q => hp (regC y) 3 (y 3) q rfl
 have b4 := fun q => hp (regC y) 4 (y 4) q rfl
 have b5 := fun q => hp (regC y) 5 (y 5) q rfl
 have b6 := fun q => hp (regC y) 6 (y 6) q rfl
 have b7 := fun q => hp (regC y) 7 (y 7) q rfl
 have he : ∀ (a b : Nat) (q : World), (Op.equalIn 9999 37 (.int .u64 (a : Int)) (.int .u64 (b : Int))).run Tryz.prog q = .ok (a == b) q := fun a b q => by
  rw [run_equalIn_int q 9998 37 .u64 .u64 _ _ hu, intEqN]
 generalize regC x = X at *
 generalize regC y = Y at *
 simp only [Op.eqItems, Sem.run_bind, a0, a1, a2, a3, a4, a5, a6, a7, b0, b1, b2, b3, b4, b5, b6, b7, he, Result.andThen_ok, Sem.run_ite, Sem.run_pure]
 unfold regB
 cases (x 0 == y 0) <;> try rfl
 cases (x 1 == y 1) <;> try rfl
 cases (x 2 == y 2) <;> try rfl
 cases (x 3 == y 3) <;> try rfl
 cases (x 4 == y 4) <;> try rfl
 cases (x 5 == y 5) <;> try rfl
 cases (x 6 == y 6) <;> try rfl
 cases (x 7 == y 7) <;> rfl
def samT (x y : Th) : Bool := (x.at_ == y.at_) && ((x.ph == y.ph) && ((x.rg == y.rg) && ((x.st == y.st) && ((x.tk == y.tk) && (regB x.r y.r && decide (x.sn = y.sn))))))
set_option maxHeartbeats 4000000 in
set_option maxRecDepth 100000 in
theorem rfThSame (x y : Th) (A : Option Addr) (c : Nat) (B : Option Addr) (d : Nat) (w : World) (h : SeqAt w (.slice A x.sn.length c) (cells64 x.sn)) (k : SeqAt w (.slice B y.sn.length d) (cells64 y.sn)) :
  Calls Tryz.prog 54 #[.agg (thC x (.slice A x.sn.length c)), .agg (thC y (.slice B y.sn.length d))] w fun e w' => e = .returned (.bool (samT x y)) ∧ Below w.heap.size w w' := by
 have hb := (((Below.refl w.heap.size w).alloc (Nat.le_refl _) (.cells (thC x (.slice A x.sn.length c)) 73))).alloc (by simp) (.cells (thC y (.slice B y.sn.length d)) 73)
 have HB := Lib.hid hb
 have HCA := Lib.hid (fun q (hq : Below w.heap.size w q) => refSameNat _ _ x.sn y.sn q (SeqAt.later_ h hq) (SeqAt.later_ k hq))
 have HD : Hid (samT x y = ((x.at_ == y.at_) && ((x.ph == y.ph) && ((x.rg == y.rg) && ((x.st == y.st) && ((x.tk == y.tk) && (regB x.r y.r && decide (x.sn = y.sn)))))))) := rfl
 have hge : Tryz.prog.eqGuardType Tryz.prog.depth 60 = false := by kernel_rfl
 have hre := fun q => regsEql x.r y.r q
 dsimp only [regC] at hre
 clear hb h k
 obtain ⟨b1, hb1⟩ : ∃ b, (x.at_ == y.at_) = b := ⟨_, rfl⟩
 obtain ⟨b2, hb2⟩ : ∃ b, (x.ph == y.ph) = b := ⟨_, rfl⟩
 obtain ⟨b3, hb3⟩ : ∃ b, (x.rg == y.rg) = b := ⟨_, rfl⟩
 obtain ⟨b4, hb4⟩ : ∃ b, (x.st == y.st) = b := ⟨_, rfl⟩
 obtain ⟨b5, hb5⟩ : ∃ b, (x.tk == y.tk) = b := ⟨_, rfl⟩
 obtain ⟨b6, hb6⟩ : ∃ b, regB x.r y.r = b := ⟨_, rfl⟩
 have ib5 : ((x.tk : Int) == (y.tk : Int)) = b5 := by rw [← hb5, intEqN]
 rw [hb1, hb2, hb3, hb4, hb5, hb6] at HD
 rw [hb6] at hre
 clear hb6
 have hc : (b1 = false) ∨ (b1 = true ∧ b2 = false) ∨ (b1 = true ∧ b2 = true ∧ b3 = false) ∨ (b1 = true ∧ b2 = true ∧ b3 = true ∧ b4 = false) ∨ (b1 = true ∧ b2 = true ∧ b3 = true ∧ b4 = true ∧ b5 = false) ∨ (b1 = true ∧ b2 = true ∧ b3 = true ∧ b4 = true ∧ b5 = true ∧ b6 = false) ∨ (b1 = true ∧ b2 = true ∧ b3 = true ∧ b4 = true ∧ b5 = true ∧ b6 = true) := by
  cases b1 <;> cases b2 <;> cases b3 <;> cases b4 <;> cases b5 <;> cases b6 <;> simp
 rcases hc with rfl | ⟨rfl, rfl⟩ | ⟨rfl, rfl, rfl⟩ | ⟨rfl, rfl, rfl, rfl⟩ | ⟨rfl, rfl, rfl, rfl, rfl⟩ | ⟨rfl, rfl, rfl, rfl, rfl, rfl⟩ | ⟨rfl, rfl, rfl, rfl, rfl, rfl⟩
 all_goals
  have HE := HD.out
  simp only [Bool.true_and, Bool.false_and] at HE
  have HE2 := Lib.hid HE
  clear HE HD
  go_enter Tryz.func54, Tryz.ntmps54
  first
   | (go_wp2
      go_ret
      exact ⟨ret_bool HE2.out.symm, HB.out⟩)
   | (go_wp2_with fail
      refine (HCA.out _ HB.out).mono ?_
      rintro e w' ⟨rfl, n, rfl⟩
      go_wp2
      go_ret
      exact ⟨ret_bool HE2.out.symm, below_drewN HB.out n⟩)
set_option maxHeartbeats 2000000 in
set_option maxRecDepth 100000 in
theorem ref13Same (t : Nat) (hs : List Nat) (cl : Bool) (L : List Sl) (A1 A2 A3 A4 : Option Addr) (c1 c2 c3 c4 : Nat) (w : World) (h1 : SeqAt w (.slice A1 hs.length c1) (cellsH hs)) (h2 : SeqAt w (.slice A2 hs.length c2) (cellsH hs))
  (s1 : SeqS w 3 (.slice A3 L.length c3) L.length (rowsOf slF L)) (s2 : SeqS w 3 (.slice A4 L.length c4) L.length (rowsOf slF L)) :
  Calls Tryz.prog 43 #[.agg #[.int .u64 (t : Int), .slice A1 hs.length c1, .bool cl, .slice A3 L.length c3], .agg #[.int .u64 (t : Int), .slice A2 hs.length c2, .bool cl, .slice A4 L.length c4]] w fun e w' => e = .returned (.bool true) ∧ Below w.heap.size w w' := by
 have hb0 := (Below.refl w.heap.size w).alloc (Nat.le_refl _) (.cells #[.int .u64 (t : Int), .slice A1 hs.length c1, .bool cl, .slice A3 L.length c3] 76)
 have hb1 := hb0.alloc (by simp) (.cells #[.int .u64 (t : Int), .slice A2 hs.length c2, .bool cl, .slice A4 L.length c4] 76)
 have l0 := (Lies.made w 76 #[.int .u64 (t : Int), .slice A1 hs.length c1, .bool cl, .slice A3 L.length c3]).alloc (.cells #[.int .u64 (t : Int), .slice A2 hs.length c2, .bool cl, .slice A4 L.length c4] 76)
 have l1 := Lies.made (w.alloc (.cells #[.int .u64 (t : Int), .slice A1 hs.length c1, .bool cl, .slice A3 L.length c3] 76)) 76 #[.int .u64 (t : Int), .slice A2 hs.length c2, .bool cl, .slice A4 L.length c4]
 rw [World.size_alloc] at l1
 have hS := ref12Same (.slice A3 L.length c3) (.slice A4 L.length c4) L L L.length L.length _ (s1.later hb1) (s2.later hb1)
 rw [decide_eq_true rfl] at hS
 have HS := Lib.hid hS
 have H1 := Lib.hid (h1.later_ hb1)
 have H2 := Lib.hid (h2.later_ hb1)
 have L0 := Lib.hid l0
 have L1 := Lib.hid l1
 have HB := Lib.hid hb1
 have hc1 : hs.length ≤ c1 ∧ c1 ≤ 9223372036854775807 := by
  obtain ⟨A', c', e, k1, k2, _⟩ := h1
  simp only [Value.slice.injEq] at e
  obtain ⟨_, e2, rfl⟩ := e
  unfold maxLen at k2
  exact ⟨by omega, by omega⟩
 obtain ⟨hc1, hc2⟩ := hc1
 have hcl : (cl != cl) = false := by cases cl <;> rfl
 clear hb0 hb1 l0 l1 hS h1 h2 s1 s2
 go_enter Tryz.func43, Tryz.ntmps43
 go_wp2_with fail
 refine HS.out.mono ?_
 rintro e w1 ⟨rfl, n1, hw1⟩
 have l0 := L0.out.drewN n1
 have l1 := L1.out.drewN n1
 rw [← hw1] at l0 l1
 have hb : Below w.heap.size w w1 := by rw [hw1]; exact below_drewN HB.out n1
 have q1 : SeqAt w1 (.slice A1 hs.length c1) (cellsH hs) := by rw [hw1]; exact H1.out
 have q2 : SeqAt w1 (.slice A2 hs.length c2) (cellsH hs) := by rw [hw1]; exact H2.out
 have L0 := Lib.hid l0
 have L1 := Lib.hid l1
 have HB := Lib.hid hb
 have H1 := Lib.hid q1
 have H2 := Lib.hid q2
 clear hw1 l0 l1 hb q1 q2 HS
 go_wp2
 go_loopw [5] (fun u wr => ∃ k n : Nat, k ≤ hs.length ∧ u = .int .i64 k ∧ wr = w1.drewN n) (fun u _ => hs.length - (intOf u).toNat)
 case atStart => exact ⟨0, 0, by omega, rfl, rfl⟩
 case round =>
  obtain ⟨k, n, hk, rfl, hwr⟩ := hrel
  have l0 := L0.out.drewN n
  have l1 := L1.out.drewN n
  rw [← hwr] at l0 l1
  have d0 := (l0.cell 1).trans (show _ = some (Value.slice A1 hs.length c1) from rfl)
  have d1 := (l1.cell 1).trans (show _ = some (Value.slice A2 hs.length c2) from rfl)
  have hb : Below w1.heap.size w1 wr := by rw [hwr]; exact below_drewN (Below.refl _ _) n
  have HW := Lib.hid hwr
  have hlt0 := l0.lt
  have hlt1 := l1.lt
  clear hwr l0 l1
  by_cases hlt : k < hs.length
  ·have hki : (k : Int) < (hs.length : Int) := by omega
   obtain ⟨x, hx⟩ : ∃ x, hs[k]? = some x := ⟨_, List.getElem?_eq_getElem hlt⟩
   have hxc : (cellsH hs)[k]? = some (.int .u64 (x : Int)) := by unfold cellsH; rw [List.getElem?_map, hx]; rfl
   obtain ⟨b1, o1, e1, _, g1⟩ := H1.out.get hb hxc
   obtain ⟨b2, o2, e2, _, g2⟩ := H2.out.get hb hxc
   clear hx hxc
   subst e1 e2
   go_wp2
   go_quiet (fail)
   go_wp2
   go_roundw
   case rel => exact ⟨k + 1, n + nq, by omega, by go_num, by rw [HW.out, World.drewN_drewN]⟩
   case measure => simp [intOf]; omega
  ·obtain rfl : k = hs.length := by omega
   have hbE := HB.out.trans (hb.mono HB.out.size)
   go_wp2
   go_ret
   exact ⟨rfl, hbE⟩
theorem rgUnd17 : Tryz.prog.underlying 76 = some (.struct (Tryz.prog.fieldsOf 76)) := by kernel_rfl
theorem infoRg17 : (Tryz.prog.info? 76).map (·.size) = some 4 := by kernel_rfl
theorem rg_load {q : World} {b off : Nat} {x : Rs} {v u : Value} (h : ∀ (j : Nat) (y : Value), (rgP (x, v, u))[j]? = some y → q.cell? ⟨b, off + j, none⟩ = some y) : (loadVar 76 ⟨b, off, none⟩).run Tryz.prog q = .ok (.agg #[.int .u64 (x.tl : Int), v, .bool x.cl, u]) q := by
 exact run_loadVar_mid q b off _ (rgP (x, v, u)) _ h rgUnd17 rfl infoRg17
theorem regB_refl (x : Nat → Nat) : regB x x = true := by unfold regB; simp
theorem samT_refl (x : Th) : samT x x = true := by unfold samT; rw [regB_refl]; simp
theorem seq64_of {w : World} {A : Option Addr} {n c : Nat} {l : List Nat} (h : SeqS w 1 (.slice A n c) n (cells64 l)) : SeqAt w (.slice A n c) (cells64 l) := by
 obtain ⟨h1, A', c', e, h2, h3, _, h4⟩ := h
 simp only [Value.slice.injEq, true_and] at e
 obtain ⟨rfl, rfl⟩ := e
 have hl : (cells64 l).length = n := by rw [h1, Nat.mul_one]
 refine ⟨A, c, by rw [hl], by rw [hl]; exact h2, h3, fun k u hu => h4 k u hu⟩
structure SmS (w : World) (c1 c2 : Array Value) (q : World) : Prop where
 bel : Below w.heap.size w q
 b1 : Lies q w.heap.size 39 c1
 b2 : Lies q (w.heap.size + 1) 39 c2
theorem SmS.later {w q q1 : World} {c1 c2 : Array Value} (h : SmS w c1 c2 q) (k : Below q.heap.size q q1) : SmS w c1 c2 q1 := ⟨h.bel.trans (k.mono h.bel.size), h.b1.below k h.b1.lt, h.b2.below k h.b2.lt⟩
theorem ownTs_form {w : World} {B n c : Nat} {A : Option Addr} {l : List Th} (h : OwnTs w B (.slice A n c) l) : n = l.length ∧ n ≤ c ∧ c ≤ 9223372036854775807 := by
 obtain ⟨ps, _, h2, _⟩ := h
 obtain ⟨A9, c9, e, g1, g2⟩ := owns_form h2
 simp only [Value.slice.injEq] at e
 omega
theorem ownRs_form {w : World} {B n c : Nat} {A : Option Addr} {l : List Rs} (h : OwnRs w B (.slice A n c) l) : n = l.length ∧ n ≤ c ∧ c ≤ 9223372036854775807 := by
 obtain ⟨ps, _, h2, _⟩ := h
 obtain ⟨A9, c9, e, g1, g2⟩ := owns_form h2
 simp only [Value.slice.injEq] at e
 omega
set_option maxHeartbeats 8000000 in
set_option maxRecDepth 100000 in
theorem rfStSame (S : Sta) (A1 R1 A2 R2 : Option Addr) (a1 r1 a2 r2 B1 B2 n m : Nat) (w : World) (hn : S.th.length = n) (hm : S.rg.length = m) (t1 : OwnTs w B1 (.slice A1 n a1) S.th) (s1 : OwnRs w B1 (.slice R1 m r1) S.rg) (t2 : OwnTs w B2 (.slice A2 n a2) S.th) (s2 : OwnRs w B2 (.slice R2 m r2) S.rg) :
  Calls Tryz.prog 20 #[.agg (stC (.slice A1 n a1) (.slice R1 m r1) S.now S.rds S.en), .agg (stC (.slice A2 n a2) (.slice R2 m r2) S.now S.rds S.en)] w fun e w' => e = .returned (.bool true) ∧ Below w.heap.size w w' := by
 have hb0 : Below w.heap.size w ((w.alloc (.cells (stC (.slice A1 n a1) (.slice R1 m r1) S.now S.rds S.en) 39)).alloc (.cells (stC (.slice A2 n a2) (.slice R2 m r2) S.now S.rds S.en) 39)) := ((Below.refl _ _).alloc (Nat.le_refl _) _).alloc (by simp) _
 have l0 := (Lies.made w 39 (stC (.slice A1 n a1) (.slice R1 m r1) S.now S.rds S.en)).alloc (.cells (stC (.slice A2 n a2) (.slice R2 m r2) S.now S.rds S.en) 39)
 have l1 := Lies.made (w.alloc (.cells (stC (.slice A1 n a1) (.slice R1 m r1) S.now S.rds S.en) 39)) 39 (stC (.slice A2 n a2) (.slice R2 m r2) S.now S.rds S.en)
 rw [World.size_alloc] at l1
 have HI : Hid (SmS w (stC (.slice A1 n a1) (.slice R1 m r1) S.now S.rds S.en) (stC (.slice A2 n a2) (.slice R2 m r2) S.now S.rds S.en) ((w.alloc (.cells (stC (.slice A1 n a1) (.slice R1 m r1) S.now S.rds S.en) 39)).alloc (.cells (stC (.slice A2 n a2) (.slice R2 m r2) S.now S.rds S.en) 39))) := ⟨hb0, l0, l1⟩
 have ⟨f1, f2⟩ := (ownTs_form t1).2
 have ⟨f3, f4⟩ := (ownTs_form t2).2
 have ⟨g1, g2⟩ := (ownRs_form s1).2
 have ⟨g3, g4⟩ := (ownRs_form s2).2
 have T1 := Lib.hid t1
 have T2 := Lib.hid t2
 have S1 := Lib.hid s1
 have S2 := Lib.hid s2
 have HN := Lib.hid (And.intro hn hm)
 obtain ⟨now, hnow⟩ : ∃ x, S.now = x := ⟨_, rfl⟩
 obtain ⟨rds, hrds⟩ : ∃ x, S.rds = x := ⟨_, rfl⟩
 obtain ⟨en, hen⟩ : ∃ x, S.en = x := ⟨_, rfl⟩
 rw [hnow, hrds, hen] at HI ⊢
 have e0 : ((n : Int) != (n : Int)) = false := by simp
 have e1 : ((m : Int) != (m : Int)) = false := by simp
 have e2 : ((now : Int) != (now : Int)) = false := by simp
 have e3 : ((rds : Int) != (rds : Int)) = false := by simp
 have e4 : (en != en) = false := by cases en <;> rfl
 clear hb0 l0 l1 t1 t2 s1 s2 hn hm hnow hrds hen
 go_enter Tryz.func20, Tryz.ntmps20
 go_upto_region 1 with (fail)
 generalize hW : (w.alloc (.cells (stC (.slice A1 n a1) (.slice R1 m r1) now rds en) 39)).alloc (.cells (stC (.slice A2 n a2) (.slice R2 m r2) now rds en) 39) = w1 at *
 clear hW
 have x0 := (HI.out.b1.cell 0).trans (show _ = some (Value.slice A1 n a1) from rfl)
 have x1 := (HI.out.b1.cell 1).trans (show _ = some (Value.slice R1 m r1) from rfl)
 have x2 := (HI.out.b1.cell 2).trans (show _ = some (Value.int .u64 (now : Int)) from rfl)
 have x3 := (HI.out.b1.cell 3).trans (show _ = some (Value.int .u64 (rds : Int)) from rfl)
 have x4 := (HI.out.b1.cell 4).trans (show _ = some (Value.bool en) from rfl)
 have xl := HI.out.b1.lt
 have y0 := (HI.out.b2.cell 0).trans (show _ = some (Value.slice A2 n a2) from rfl)
 have y1 := (HI.out.b2.cell 1).trans (show _ = some (Value.slice R2 m r2) from rfl)
 have y2 := (HI.out.b2.cell 2).trans (show _ = some (Value.int .u64 (now : Int)) from rfl)
 have y3 := (HI.out.b2.cell 3).trans (show _ = some (Value.int .u64 (rds : Int)) from rfl)
 have y4 := (HI.out.b2.cell 4).trans (show _ = some (Value.bool en) from rfl)
 have yl := HI.out.b2.lt
 go_wp2_with fail
 clear x0 x1 x2 x3 x4 xl y0 y1 y2 y3 y4 yl e0 e1 e2 e3 e4
 go_loopw [5] (fun u wr => ∃ i : Nat, i ≤ n ∧ u = .int .i64 i ∧ Hid (SmS w (stC (.slice A1 n a1) (.slice R1 m r1) now rds en) (stC (.slice A2 n a2) (.slice R2 m r2) now rds en) wr)) (fun u _ => n - (intOf u).toNat)
 case atStart => exact ⟨0, by omega, rfl, HI⟩
 case round =>
  clear HI
  obtain ⟨i, hi, rfl, HI⟩ := hrel
  have x0 := (HI.out.b1.cell 0).trans (show _ = some (Value.slice A1 n a1) from rfl)
  have xl := HI.out.b1.lt
  by_cases hlt : i < n
  ·have hii : (i : Int) < (n : Int) := by omega
   obtain ⟨x, hx⟩ : ∃ x, S.th[i]? = some x := ⟨_, List.getElem?_eq_getElem (by have := HN.out.1; omega)⟩
   obtain ⟨P1, p1, A8, d8, e8, h8a, h8b, P1l, hc1⟩ := ownTs_at T1.out hx
   obtain ⟨P2, p2, A9, d9, e9, h9a, h9b, P2l, hc2⟩ := ownTs_at T2.out hx
   clear h8a h8b h9a h9b
   simp only [Value.slice.injEq] at e8 e9
   have e81 := e8.1
   have e91 := e9.1
   clear e8 e9
   subst e81
   subst e91
   have hbd := (Below.refl wr.heap.size wr).drew
   have HI5 := Lib.hid (HI.out.later hbd)
   have hs1 := (hc1 wr.drew HI5.out.bel).2
   have hs2 := (hc2 wr.drew HI5.out.bel).2
   have hld1 := th_load (hc1 wr.drew HI5.out.bel).1
   have hld2 := th_load (hc2 wr.drew HI5.out.bel).1
   have HSM := Lib.hid (rfThSame x x A8 d8 A9 d9 wr.drew (seq64_of hs1) (seq64_of hs2))
   rw [samT_refl] at HSM
   have P1w := Nat.lt_of_lt_of_le P1l HI5.out.bel.size
   have P2w := Nat.lt_of_lt_of_le P2l HI5.out.bel.size
   clear hc1 hc2 hs1 hs2 P1l P2l hx hbd
   go_upto_region 6 with (fail)
   clear x0 xl
   have x0 := (HI5.out.b1.cell 0).trans (show _ = some (Value.slice (some ⟨P1, 0, none⟩) n a1) from rfl)
   have xl := HI5.out.b1.lt
   have y0 := (HI5.out.b2.cell 0).trans (show _ = some (Value.slice (some ⟨P2, 0, none⟩) n a2) from rfl)
   have yl := HI5.out.b2.lt
   clear HI
   refine wp_region_still_tail 10 (by kernel_rfl) (by kernel_rfl) ?_
   simp only [List.take_succ_cons, List.take_zero, List.drop_succ_cons, List.drop_zero]
   change wpStill _ _ wr.drew (fun a' => wpList _ _ _ _ a' wr.drew) _ _
   generalize wr.drew = w5 at *
   iterate 4 still_step
   refine wpStill_step (fun K hK => ?_)
   rw [if_pos (by kernel_rfl)]
   refine still_load_mid _ _ rfl _ _ rfl _ hld1 (hK _ ?_)
   clear hK K
   iterate 4 still_step
   refine wpStill_step (fun K hK => ?_)
   rw [if_pos (by kernel_rfl)]
   refine still_load_mid _ _ rfl _ _ rfl _ hld2 (hK _ ?_)
   clear hK K
   refine wpStill_nil ?_
   clear hld1 hld2 x0 xl y0 yl
   go_wp2_with fail
   refine HSM.out.mono ?_
   rintro e w6 ⟨rfl, hb6⟩
   have HI6 := Lib.hid (HI5.out.later hb6)
   clear hb6 HI5 HSM
   go_wp2
   go_roundw
   case rel => exact ⟨i + 1, by omega, by go_num, HI6⟩
   case measure => simp [intOf]; omega
  ·obtain rfl : i = n := by omega
   clear hi hlt
   go_wp2_with fail
   clear x0 xl
   go_loopw [6] (fun u wq => ∃ j : Nat, j ≤ m ∧ u = .int .i64 j ∧ Hid (SmS w (stC (.slice A1 i a1) (.slice R1 m r1) now rds en) (stC (.slice A2 i a2) (.slice R2 m r2) now rds en) wq)) (fun u _ => m - (intOf u).toNat)
   case atStart => exact ⟨0, by omega, rfl, HI⟩
   case round =>
    clear HI
    obtain ⟨j, hj, rfl, HI⟩ := hrel
    have x1 := (HI.out.b1.cell 1).trans (show _ = some (Value.slice R1 m r1) from rfl)
    have xl := HI.out.b1.lt
    by_cases hlt : j < m
    ·have hii : (j : Int) < (m : Int) := by omega
     obtain ⟨x, hx⟩ : ∃ x, S.rg[j]? = some x := ⟨_, List.getElem?_eq_getElem (by have := HN.out.2; omega)⟩
     obtain ⟨P1, p1, A7, d7, A8, d8, e8, h8a, h8b, P1l, hc1⟩ := ownRs_at S1.out hx
     obtain ⟨P2, p2, A5, d5, A9, d9, e9, h9a, h9b, P2l, hc2⟩ := ownRs_at S2.out hx
     clear h8a h8b h9a h9b
     simp only [Value.slice.injEq] at e8 e9
     have e81 := e8.1
     have e91 := e9.1
     clear e8 e9
     subst e81
     subst e91
     have hbd := (Below.refl wr.heap.size wr).drew
     have HI5 := Lib.hid (HI.out.later hbd)
     have hs1 := (hc1 wr.drew HI5.out.bel).2
     have hs2 := (hc2 wr.drew HI5.out.bel).2
     have hld1 := rg_load (hc1 wr.drew HI5.out.bel).1
     have hld2 := rg_load (hc2 wr.drew HI5.out.bel).1
     have HSM := Lib.hid (ref13Same x.tl x.hs x.cl x.sl A7 A5 A8 A9 d7 d5 d8 d9 wr.drew (seqAt_of hs1.1) (seqAt_of hs2.1) hs1.2 hs2.2)
     have P1w := Nat.lt_of_lt_of_le P1l HI5.out.bel.size
     have P2w := Nat.lt_of_lt_of_le P2l HI5.out.bel.size
     clear hc1 hc2 hs1 hs2 P1l P2l hx hbd
     go_upto_region 11 with (fail)
     clear x1 xl
     have x1 := (HI5.out.b1.cell 1).trans (show _ = some (Value.slice (some ⟨P1, 0, none⟩) m r1) from rfl)
     have xl := HI5.out.b1.lt
     have y1 := (HI5.out.b2.cell 1).trans (show _ = some (Value.slice (some ⟨P2, 0, none⟩) m r2) from rfl)
     have yl := HI5.out.b2.lt
     clear HI
     refine wp_region_still_tail 10 (by kernel_rfl) (by kernel_rfl) ?_
     simp only [List.take_succ_cons, List.take_zero, List.drop_succ_cons, List.drop_zero]
     change wpStill _ _ wr.drew (fun a' => wpList _ _ _ _ a' wr.drew) _ _
     generalize wr.drew = w5 at *
     iterate 4 still_step
     refine wpStill_step (fun K hK => ?_)
     rw [if_pos (by kernel_rfl)]
     refine still_load_mid _ _ rfl _ _ rfl _ hld1 (hK _ ?_)
     clear hK K
     iterate 4 still_step
     refine wpStill_step (fun K hK => ?_)
     rw [if_pos (by kernel_rfl)]
     refine still_load_mid _ _ rfl _ _ rfl _ hld2 (hK _ ?_)
     clear hK K
     refine wpStill_nil ?_
     clear hld1 hld2 x1 xl y1 yl
     go_wp2_with fail
     refine HSM.out.mono ?_
     rintro e w6 ⟨rfl, hb6⟩
     have HI6 := Lib.hid (HI5.out.later hb6)
     clear hb6 HI5 HSM
     go_wp2
     go_roundw
     case rel => exact ⟨j + 1, by omega, by go_num, HI6⟩
     case measure => simp [intOf]; omega
    ·obtain rfl : j = m := by omega
     clear hj hlt
     go_wp2
     go_ret
     exact ⟨rfl, HI.out.bel⟩
structure RwAt (w : World) (cp ec : Array Value) (F G : Nat) (f g : Fb) (k j : Nat) (zf zg : Fv) (q : World) : Prop where
 bel : Below w.heap.size w q
 box : Lies q w.heap.size 25 cp
 ebx : Lies q (w.heap.size + 1) 43 ec
 tw : TwAt w.heap.size F G f g k j zf zg q
section
variable {w q q' : World} {cp ec : Array Value} {F G k j : Nat} {f g f' g' : Fb} {zf zg : Fv} {E : Int} {r : Ending}
theorem RwAt.later (h : RwAt w cp ec F G f g k j zf zg q) (hb : Below q.heap.size q q') : RwAt w cp ec F G f g k j zf zg q' :=
 ⟨h.bel.trans (hb.mono h.bel.size), h.box.below hb h.box.lt, h.ebx.below hb h.ebx.lt, h.tw.later hb⟩
theorem RwAt.first (h : RwAt w cp ec F G f g k j zf zg q) (hp : DgPost q w.heap.size F zf k E f' r q') : r = .returned (.int .i64 E) ∧ (∀ b T cs, Lies q b T cs → ¬ FbTy T → Lies q' b T cs) ∧ ∃ z', RwAt w cp ec F G f' g (k + 1) j z' zg q' := by
 obtain ⟨h1, h2, h3, z', h4⟩ := h.tw.first hp
 exact ⟨h1, h3, z', h.bel.trans h2, h3 _ _ _ h.box (by decide), h3 _ _ _ h.ebx (by decide), h4⟩
theorem RwAt.second (h : RwAt w cp ec F G f g k j zf zg q) (hp : DgPost q w.heap.size G zg j E g' r q') : r = .returned (.int .i64 E) ∧ (∀ b T cs, Lies q b T cs → ¬ FbTy T → Lies q' b T cs) ∧ ∃ z', RwAt w cp ec F G f g' k (j + 1) zf z' q' := by
 obtain ⟨h1, h2, h3, z', h4⟩ := h.tw.swap.first hp
 exact ⟨h1, h3, z', h.bel.trans h2, h3 _ _ _ h.box (by decide), h3 _ _ _ h.ebx (by decide), h4.swap⟩
theorem RwAt.more (h : RwAt w cp ec F G f g k j zf zg q) : RwAt w cp ec F G f g (k + 1) (j + 1) zf zg q := ⟨h.bel, h.box, h.ebx, h.tw.ff, h.tw.fg.more, h.tw.gf, h.tw.gg.more, h.tw.apart⟩
end
def StV (S : Sta) (B : Nat) (v : Value) (q : World) : Prop := ∃ A c R d, v = .agg (stC (.slice A S.th.length c) (.slice R S.rg.length d) S.now S.rds S.en) ∧ OwnTs q B (.slice A S.th.length c) S.th ∧ OwnRs q B (.slice R S.rg.length d) S.rg
theorem owns_bound {S : Nat → Prop} {q q' : World} {B sz n : Nat} {e : TypeId} {v : Value} {xs : List Value} (h : q.ownsRow B e sz v n xs) (kp : Kept S q q') (hS : ∀ r, S r → r < B) : q'.ownsRow B e sz v n xs :=
 owns_kept h kp (fun r cur hr _ hs => by have := hS r hs; have := (own_lt17 h hr).1; omega)
theorem OwnL.bound {S : Nat → Prop} {q q' : World} {B sz n : Nat} {e : TypeId} {v : Value} {xs : List Value} (h : OwnL q B e sz n xs v) (kp : Kept S q q') (hS : ∀ r, S r → r < B) : OwnL q' B e sz n xs v := by
 obtain ⟨A, c, e1, h1⟩ := h
 exact ⟨A, c, e1, owns_bound h1 kp hS⟩
theorem StV.kept {Z : Sta} {B : Nat} {v : Value} {q q' : World} {S : Nat → Prop} (h : StV Z B v q) (kp : Kept S q q') (hS : ∀ r, S r → r < B) : StV Z B v q' := by
 obtain ⟨A, c, R, d, e, ⟨ps, h1, h2, h3⟩, qs, g1, g2, g3⟩ := h
 exact ⟨A, c, R, d, e, ⟨ps, h1, owns_bound h2 kp hS, fun p hp => (h3 p hp).bound kp hS⟩, qs, g1, owns_bound g2 kp hS, fun x hx => ⟨(g3 x hx).1.bound kp hS, (g3 x hx).2.bound kp hS⟩⟩
theorem StV.below {S : Sta} {B : Nat} {v : Value} {q q' : World} (hb : Below q.heap.size q q') (h : StV S B v q) : StV S B v q' := h.kept (Kept.of_below hb) (fun _ hf => hf.elim)
theorem stV_of {w q : World} {S : Sta} {r : Ending} (h : StPost w S r q) : ∃ v, r = .returned v ∧ StV S w.heap.size v q ∧ Below w.heap.size w q := by
 obtain ⟨A, c, R, d, h1, h2, h3, h4⟩ := h
 exact ⟨_, h1, ⟨A, c, R, d, rfl, h2, h3⟩, h4⟩
theorem stSameV {S : Sta} {B C : Nat} {u v : Value} {q : World} (h1 : StV S B u q) (h2 : StV S C v q) : Calls Tryz.prog 20 #[u, v] q fun e w' => e = .returned (.bool true) ∧ Below q.heap.size q w' := by
 obtain ⟨A, c, R, d, rfl, a1, a2⟩ := h1
 obtain ⟨A', c', R', d', rfl, b1, b2⟩ := h2
 exact rfStSame S A R A' R' c d c' d' B C _ _ q rfl rfl a1 a2 b1 b2
theorem fbStV {w : World} {B F k : Nat} {f : Fb} {z : Fv} (h : FabAt w B F f z) (g : FbGood f k) (hk : k ≤ 1000) (ht : f.p.ts.length ≤ 8) (hr : f.p.rs.length ≤ 8) : Calls Tryz.prog 21 #[.pointer (some ⟨F, 0, none⟩)] w fun r w' => ∃ v, r = .returned v ∧ StV (stF f) w.heap.size v w' ∧ Below w.heap.size w w' :=
 (fbState h g.ok (fun t => by have := sn_le g.sn t; omega) (by omega) (by omega)).mono fun _ _ hp => stV_of hp
def CsS (ic : Nat) (post : List Nat) (A C : World → Prop) (x : Nat → Value) (L : Nat → Bool) (q : World) : Prop := (L ic = false → A q) ∧ C q ∧ ∀ j ∈ post, L j = true → L ic = true
section
variable {ic i d : Nat} {post : List Nat} {A C : World → Prop} {x : Nat → Value} {L : Nat → Bool} {q q' : World} {v : Value}
theorem cs_start (hA : A q) (hC : C q) : CsS ic post A C x (fun _ => false) q := ⟨fun _ => hA, hC, fun _ _ h => h⟩
theorem cs_more (hi : (i != ic && !post.contains i) = true) (h : CsS ic post A C x L q) (hA : A q → A q') (hC : C q → C q') : CsS ic post A C (updX x i v) (updL L i) q' := by
 rw [Bool.and_eq_true, bne_iff_ne, Bool.not_eq_true'] at hi
 refine ⟨fun e => hA (h.1 (by rwa [pupdL_ne (Ne.symm hi.1)] at e)), hC h.2.1, fun j hj hl => ?_⟩
 have hji : j ≠ i := fun e => by subst e; rw [List.contains_iff_mem.2 hj] at hi; cases hi.2
 rw [pupdL_ne hji] at hl
 exact pupdL_le (h.2.2 j hj hl)
theorem cs_op (hi : (i != ic && !post.contains i) = true) (h : CsS ic post A C x L q) : CsS ic post A C (updX x i v) (updL L i) q := cs_more hi h id id
theorem cs_moreP (hi : (i != ic && (d == ic || post.contains d)) = true) (h : CsS ic post A C x L q) (hd : L d = true) (hA : A q → A q') (hC : C q → C q') : CsS ic post A C (updX x i v) (updL L i) q' := by
 rw [Bool.and_eq_true, bne_iff_ne, Bool.or_eq_true, beq_iff_eq, List.contains_iff_mem] at hi
 have hc : L ic = true := by
  rcases hi.2 with e | e
  ·rw [← e]; exact hd
  ·exact h.2.2 d e hd
 exact ⟨fun e => hA (h.1 (by rwa [pupdL_ne (Ne.symm hi.1)] at e)), hC h.2.1, fun _ _ _ => pupdL_le hc⟩
theorem cs_opP (hi : (i != ic && (d == ic || post.contains d)) = true) (h : CsS ic post A C x L q) (hd : L d = true) : CsS ic post A C (updX x i v) (updL L i) q := cs_moreP hi h hd id id
theorem cs_call (hC : C q') : CsS ic post A C (updX x ic v) (updL L ic) q' :=
 ⟨fun e => by rw [pupdL_self] at e; exact (Bool.false_ne_true e.symm).elim, hC, fun _ _ _ => pupdL_self⟩
theorem cs_keep {ops : Array Oper} {fs : List Bf} {l : List Nat} (h : CsS ic post A C x L q) (hL : L ic = false) (hl : l.all (fun j => (fs.getD j .any).lit || (post.contains j && Nat.blt j ops.size)) = true) : AllPX (ops := ops) (bfV fs) x L q q' l :=
 AllPX.of _ (fun j hj hlj hv => by
  have h1 := List.all_eq_true.1 hl j hj
  rw [Bool.or_eq_true, Bool.and_eq_true, List.contains_iff_mem] at h1
  rcases h1 with h1 | ⟨h1, h2⟩
  ·exact (fs.getD j .any).free h1 _ _ _ hv
  ·have h3 := h.2.2 j h1 (hlj (by simpa [Nat.blt_eq] using h2))
   rw [hL] at h3; exact (Bool.false_ne_true h3).elim)
end
def EbC (w : World) (ec : Array Value) (q : World) : Prop := Below w.heap.size w q ∧ Lies q (w.heap.size + 1) 43 ec
theorem EbC.later {w q q' : World} {ec : Array Value} (h : EbC w ec q) (hb : Below q.heap.size q q') : EbC w ec q' := ⟨h.1.trans (hb.mono h.1.size), h.2.below hb h.2.lt⟩
theorem RwAt.ebC {w q : World} {cp ec : Array Value} {F G k j : Nat} {f g : Fb} {zf zg : Fv} (h : RwAt w cp ec F G f g k j zf zg q) : EbC w ec q := ⟨h.bel, h.ebx⟩
section
variable {W : World} {H : Type} {enc : TypeId × Value → H}
set_option maxRecDepth 100000 in
theorem opened43 {base : Nat} {v : Value} {d : DataW H} {p : List MemPlace}
  (hok : Value.okWide Tryz.prog W .any base 43 v) (h : DataW.Trod enc Tryz.prog W 0 (fun _ => true) true 43 v d p) :
  ∃ z : Ev, v = .agg (evC z) ∧ evOk z := by
 obtain ⟨cs, rfl, hl⟩ := WideShapes.okWide_struct Tryz.underlying43 hok
 obtain ⟨n, h⟩ := h
 obtain ⟨x, hx, ho⟩ := ev_open (cs := cs.toList) (by rw [Array.length_toList, hl]; kernel_rfl) h
 refine ⟨x, ?_, ho⟩
 rw [show evC x = cs from Array.toList_inj.1 hx.symm]
end
set_option maxHeartbeats 16000000 in
set_option maxRecDepth 100000 in
theorem refuses_walk (y0 : Pa) (a1 : Option Addr) (len1 cap1 : Nat) (l : List Ev) (y : Ev) (w : World) (w0 : PaAt w y0) (w1 : EvArg w a1 len1 cap1 l) (w2 : evOk y) : Calls Tryz.prog 6 #[.agg (pgC y0.A y0.c y0.B y0.d y0.p), .slice a1 len1 cap1, .agg (evC y)] w fun e w' => e = .returned (.bool true) ∧ Below w.heap.size w w' := by
 obtain ⟨A, c, Q, d, p⟩ := y0
 obtain ⟨hp, hok⟩ := w0
 obtain ⟨hlen, hev, heo⟩ := w1
 subst hlen
 obtain ⟨he1, he2⟩ := seq_form hev
 obtain ⟨hd1, hd2⟩ := hp.2.form
 have hb0 : Below w.heap.size w ((w.alloc (.cells (pgC A c Q d p) 25)).alloc (.cells (evC y) 43)) := ((Below.refl _ _).alloc (Nat.le_refl _) _).alloc (by simp) _
 have l0 := (Lies.made w 25 (pgC A c Q d p)).alloc (.cells (evC y) 43)
 have le0 := Lies.made (w.alloc (.cells (pgC A c Q d p) 25)) 43 (evC y)
 rw [World.size_alloc] at le0
 have HX0 := Lib.hid le0
 have HY := Lib.hid w2
 clear le0 w2
 have HAW := Lib.hid (fun q => awake_any q)
 have HFE := Lib.hid (fun (q : World) (hq : Below w.heap.size w q) => few17 p A c Q d q (hp.later hq) hok)
 have HB0 := Lib.hid hb0
 have HL0 := Lib.hid l0
 have HP := Lib.hid hp
 have HOK := Lib.hid hok
 have HEV := Lib.hid hev
 have HEO := Lib.hid heo
 clear hb0 l0 hp hok hev heo
 obtain ⟨fb, hfb⟩ : ∃ b, (fewB p 100 && rightP p) = b := ⟨_, rfl⟩
 rw [hfb] at HFE
 have HFB := Lib.hid hfb
 clear hfb
 go_enter Tryz.func6, Tryz.ntmps6
 go_wp2_with fail
 refine (HAW.out _).mono ?_
 rintro e wA ⟨rfl, hbA⟩
 have HB1 := Lib.hid (HB0.out.trans (hbA.mono HB0.out.size))
 have HL1 := Lib.hid (HL0.out.below hbA HL0.out.lt)
 have HX1 := Lib.hid (HX0.out.below hbA HX0.out.lt)
 clear hbA HB0 HL0 HX0
 have c0 := (HL1.out.cell 0).trans (show _ = some (Value.slice A p.rs.length c) from rfl)
 have c1 := (HL1.out.cell 1).trans (show _ = some (Value.slice Q p.ts.length d) from rfl)
 have cl := HL1.out.lt
 go_wp2_with fail
 refine (HFE.out _ HB1.out).mono ?_
 rintro e wB ⟨rfl, hbB⟩
 have HB2 := Lib.hid (HB1.out.trans (hbB.mono HB1.out.size))
 have HL2 := Lib.hid (HL1.out.below hbB HL1.out.lt)
 have HX2 := Lib.hid (HX1.out.below hbB HX1.out.lt)
 clear hbB HB1 HL1 HX1 c0 c1 cl
 cases fb with
 | false =>
  go_wp2_with fail
  refine (HAW.out _).mono ?_
  rintro e w3 ⟨rfl, hb3⟩
  have HB3 := Lib.hid (HB2.out.trans (hb3.mono HB2.out.size))
  clear hb3
  go_wp2_with fail
  go_ret
  exact ⟨rfl, HB3.out⟩
 | true =>
  by_cases h80 : 80 < l.length
  ·have e80 : decide ((80 : Int) < (l.length : Int)) = true := decide_eq_true (by omega)
   go_wp2_with fail
   refine (HAW.out _).mono ?_
   rintro e w3 ⟨rfl, hb3⟩
   have HB3 := Lib.hid (HB2.out.trans (hb3.mono HB2.out.size))
   clear hb3
   go_wp2_with fail
   go_ret
   exact ⟨rfl, HB3.out⟩
  have e80 : decide ((80 : Int) < (l.length : Int)) = false := decide_eq_false (by omega)
  have hfr := HFB.out
  rw [Bool.and_eq_true] at hfr
  obtain ⟨⟨ht0, ht8, hr8⟩, _⟩ := rightP_all hfr.2
  have HNW := Lib.hid (fbNew p A c Q d wB (HP.out.later HB2.out) HOK.out hfr.2)
  have HG0 := Lib.hid (newF_good HOK.out hfr.2)
  clear hfr
  have c0 := (HL2.out.cell 0).trans (show _ = some (Value.slice A p.rs.length c) from rfl)
  have c1 := (HL2.out.cell 1).trans (show _ = some (Value.slice Q p.ts.length d) from rfl)
  have cl := HL2.out.lt
  go_wp2_with fail
  refine HNW.out.mono ?_
  rintro e w3 ⟨F, z, rfl, hF, hf, hb3⟩
  have HB3 := Lib.hid (HB2.out.trans (hb3.mono HB2.out.size))
  have HL3 := Lib.hid (HL2.out.below hb3 HL2.out.lt)
  have HX3 := Lib.hid (HX2.out.below hb3 HX2.out.lt)
  have HF3 := Lib.hid (hf.mono (B' := w.heap.size) HB2.out.size)
  have HNW2 := Lib.hid (fbNew p A c Q d w3 (HP.out.later HB3.out) HOK.out (by have := HFB.out; rw [Bool.and_eq_true] at this; exact this.2))
  clear hF hf hb3 HNW HB2 HL2 HX2 c0 c1 cl
  have c0 := (HL3.out.cell 0).trans (show _ = some (Value.slice A p.rs.length c) from rfl)
  have c1 := (HL3.out.cell 1).trans (show _ = some (Value.slice Q p.ts.length d) from rfl)
  have cl := HL3.out.lt
  go_wp2_with fail
  refine HNW2.out.mono ?_
  rintro e w4 ⟨G, zg, rfl, hG, hg, hb4⟩
  have HI : Hid (RwAt w (pgC A c Q d p) (evC y) F G (newF p) (newF p) 0 0 z zg w4) := by
   refine ⟨HB3.out.trans (hb4.mono HB3.out.size), HL3.out.below hb4 HL3.out.lt, HX3.out.below hb4 HX3.out.lt, HF3.out.later hb4, HG0.out, hg.mono HB3.out.size, HG0.out, fun r hr hr2 => ?_⟩
   obtain ⟨_, e1, c1, h1, _⟩ := fb_types HF3.out hr
   have h2 := (fb_types hg hr2).1
   have := h1.lt
   omega
  have HPP : Hid ((newF p).p = p) := rfl
  clear hG hg hb4 HB3 HL3 HX3 HF3 HNW2 HG0 c0 c1 cl e80
  generalize newF p = f0 at *
  go_upto_region 7 with (fail)
  go_wp2_with fail
  go_loopw [47] (fun u wr => ∃ (i : Nat) (f : Fb) (zf zg : Fv), i ≤ l.length ∧ u = .int .i64 i ∧ Hid (RwAt w (pgC A c Q d p) (evC y) F G f f i i zf zg wr) ∧ Hid (f.p = p)) (fun u _ => l.length - (intOf u).toNat)
  case atStart => exact ⟨0, _, _, _, by omega, rfl, HI, HPP⟩
  case round =>
   clear HI HPP z zg f0
   obtain ⟨i, f, zf, zg, hi, rfl, HI, HPP⟩ := hrel
   by_cases hlt : i < l.length
   ·have hii : (i : Int) < (l.length : Int) := by omega
    obtain ⟨e, he⟩ : ∃ e, l[i]? = some e := ⟨_, List.getElem?_eq_getElem hlt⟩
    have heo := HEO.out e (List.mem_of_getElem? he)
    obtain ⟨b, off, rfl, hbl, hec⟩ := EvsAt.at_ HEV.out he
    have hbw := Nat.lt_of_lt_of_le hbl HI.out.bel.size
    have x0 := (HI.out.bel.cell hbl).trans (hec 0 _ (by decide) rfl)
    have x1 := (HI.out.bel.cell hbl).trans (hec 1 _ (by decide) rfl)
    have x2 := (HI.out.bel.cell hbl).trans (hec 2 _ (by decide) rfl)
    have x3 := (HI.out.bel.cell hbl).trans (hec 3 _ (by decide) rfl)
    have x4 := (HI.out.bel.cell hbl).trans (hec 4 _ (by decide) rfl)
    rw [Nat.add_zero] at x0
    have hb5 : Below wr.heap.size wr (wr.alloc (.cells (evC e) 43)) := (Below.refl _ _).alloc (Nat.le_refl _) _
    have HI5 := Lib.hid (HI.out.later hb5)
    have HE5 := Lib.hid (Lies.made wr 43 (evC e))
    have HEE := Lib.hid heo
    clear hec he heo hb5 HI
    go_upto_region 10 with (fail)
    clear x0 x1 x2 x3 x4
    generalize wr.alloc (.cells (evC e) 43) = w5 at *
    generalize wr.heap.size = N9 at *
    have x0 := (HE5.out.cell 0).trans (show _ = some (Value.int .i64 e.th) from rfl)
    have x1 := (HE5.out.cell 1).trans (show _ = some (Value.int .i64 e.kd) from rfl)
    have x2 := (HE5.out.cell 2).trans (show _ = some (Value.int .i64 e.rg) from rfl)
    have x3 := (HE5.out.cell 3).trans (show _ = some (Value.int .u64 (e.tk : Int)) from rfl)
    have x4 := (HE5.out.cell 4).trans (show _ = some (Value.int .u64 (e.vl : Int)) from rfl)
    have xl := HE5.out.lt
    have HAL := Lib.hid (fbAllowedG HEE.out HI5.out.tw.ff HI5.out.tw.fg)
    obtain ⟨ab, hab⟩ : ∃ b, alwB f e = b := ⟨_, rfl⟩
    rw [hab] at HAL
    go_wp2_with fail
    refine HAL.out.mono ?_
    rintro r w6 ⟨rfl, hb6⟩
    have HI6 := Lib.hid (HI5.out.later hb6)
    have HE6 := Lib.hid (HE5.out.below hb6 HE5.out.lt)
    clear hb6 HAL HI5 HE5 x0 x1 x2 x3 x4 xl
    cases ab with
    | false =>
     have HI9 := Lib.hid HI6.out.more
     clear HI6 hab
     go_wp2
     go_roundw
     case rel => exact ⟨i + 1, f, zf, zg, by omega, by go_num, HI9, HPP⟩
     case measure => simp [intOf]; omega
    | true =>
     obtain ⟨d1, d2, d3⟩ := alw_does hab
     have HD := Lib.hid (And.intro d2 d3)
     have HDO := Lib.hid (fbDoG HEE.out (by omega) HI6.out.tw.ff HI6.out.tw.fg)
     rw [d1] at HDO
     have hpf : (doF f e).p = p := by unfold doF; rw [if_pos d1, perfF_p]; exact HPP.out
     have HP8 : Hid ((doF f e).p = p) := hpf
     have x0 := (HE6.out.cell 0).trans (show _ = some (Value.int .i64 e.th) from rfl)
     have x1 := (HE6.out.cell 1).trans (show _ = some (Value.int .i64 e.kd) from rfl)
     have x2 := (HE6.out.cell 2).trans (show _ = some (Value.int .i64 e.rg) from rfl)
     have x3 := (HE6.out.cell 3).trans (show _ = some (Value.int .u64 (e.tk : Int)) from rfl)
     have x4 := (HE6.out.cell 4).trans (show _ = some (Value.int .u64 (e.vl : Int)) from rfl)
     have xl := HE6.out.lt
     clear hab d1 d2 d3 hpf
     go_wp2_with fail
     refine HDO.out.mono ?_
     rintro r w7 hd
     obtain ⟨rfl, hk7, z7, hI7⟩ := HI6.out.first hd
     have HE7 := Lib.hid (hk7 _ _ _ HE6.out (by decide))
     have HI7 := Lib.hid hI7
     clear hd hk7 hI7 HDO HI6 HE6 x0 x1 x2 x3 x4 xl
     have HFD := Lib.hid (fbFeedG HEE.out (by omega) HI7.out.tw.gf HI7.out.tw.gg)
     rw [HD.out.1, HD.out.2] at HFD
     generalize doF f e = f7 at *
     have x0 := (HE7.out.cell 0).trans (show _ = some (Value.int .i64 e.th) from rfl)
     have x1 := (HE7.out.cell 1).trans (show _ = some (Value.int .i64 e.kd) from rfl)
     have x2 := (HE7.out.cell 2).trans (show _ = some (Value.int .i64 e.rg) from rfl)
     have x3 := (HE7.out.cell 3).trans (show _ = some (Value.int .u64 (e.tk : Int)) from rfl)
     have x4 := (HE7.out.cell 4).trans (show _ = some (Value.int .u64 (e.vl : Int)) from rfl)
     have xl := HE7.out.lt
     go_wp2_with fail
     refine HFD.out.mono ?_
     rintro r w8 hd
     obtain ⟨rfl, _, z8, hI8⟩ := HI7.out.second hd
     have HI8 := Lib.hid hI8
     clear hd hI8 HFD HI7 HE7 x0 x1 x2 x3 x4 xl HD
     go_wp2
     go_roundw
     case rel => exact ⟨i + 1, f7, z7, z8, by omega, by go_num, HI8, HP8⟩
     case measure => simp [intOf]; omega
   ·obtain rfl : i = l.length := by omega
    clear hi hlt
    have HST := Lib.hid (fbStV HI.out.tw.ff HI.out.tw.fg (by omega) (by rw [HPP.out]; exact ht8) (by rw [HPP.out]; exact hr8))
    have HTH : Hid (f.p.ts.length ≤ 8 ∧ f.p.rs.length ≤ 8) := by rw [HPP.out]; exact ⟨ht8, hr8⟩
    clear HPP
    go_wp2_with fail
    refine HST.out.mono ?_
    rintro r w5 ⟨v, rfl, hsv, hb5⟩
    have HFP : Hid (∀ r, FpOf F zf r → r < wr.heap.size) := fun r hr => by obtain ⟨_, _, _, hl, _⟩ := fb_types HI.out.tw.ff hr; exact hl.lt
    have HI5 := Lib.hid (HI.out.later hb5)
    obtain ⟨At, ct, Ar, cr, rfl, hts, hrs⟩ := hsv
    obtain ⟨now, hnow⟩ : ∃ x, (stF f).now = x := ⟨_, rfl⟩
    obtain ⟨rds, hrds⟩ : ∃ x, (stF f).rds = x := ⟨_, rfl⟩
    obtain ⟨en, hen⟩ : ∃ x, (stF f).en = x := ⟨_, rfl⟩
    obtain ⟨n, hn⟩ : ∃ x, (stF f).th.length = x := ⟨_, rfl⟩
    obtain ⟨m, hm⟩ : ∃ x, (stF f).rg.length = x := ⟨_, rfl⟩
    have hsv : StV (stF f) wr.heap.size (.agg (stC (.slice At n ct) (.slice Ar m cr) now rds en)) w5 := by
     rw [← hnow, ← hrds, ← hen, ← hn, ← hm]
     exact ⟨At, ct, Ar, cr, rfl, hts, hrs⟩
    rw [hnow, hrds, hen, hn, hm]
    have hb6 : Below w5.heap.size w5 (w5.alloc (.cells (stC (.slice At n ct) (.slice Ar m cr) now rds en) 39)) := (Below.refl _ _).alloc (Nat.le_refl _) _
    have HSV := Lib.hid (hsv.below hb6)
    have HI6 := Lib.hid (HI5.out.later hb6)
    have HS6 := Lib.hid (Lies.made w5 39 (stC (.slice At n ct) (.slice Ar m cr) now rds en))
    clear hb5 hsv hts hrs hnow hrds hen hn hm hb6 HST HI HI5
    go_upto_region 14 with (fail)
    generalize w5.alloc (.cells (stC (.slice At n ct) (.slice Ar m cr) now rds en) 39) = w6 at *
    generalize w5.heap.size = SB at *
    generalize wr.heap.size = BS at *
    have HAL := Lib.hid (fbAllowedG HY.out HI6.out.tw.ff HI6.out.tw.fg)
    obtain ⟨ab, hab⟩ : ∃ b, alwB f y = b := ⟨_, rfl⟩
    rw [hab] at HAL
    have x0 := (HI6.out.ebx.cell 0).trans (show _ = some (Value.int .i64 y.th) from rfl)
    have x1 := (HI6.out.ebx.cell 1).trans (show _ = some (Value.int .i64 y.kd) from rfl)
    have x2 := (HI6.out.ebx.cell 2).trans (show _ = some (Value.int .i64 y.rg) from rfl)
    have x3 := (HI6.out.ebx.cell 3).trans (show _ = some (Value.int .u64 (y.tk : Int)) from rfl)
    have x4 := (HI6.out.ebx.cell 4).trans (show _ = some (Value.int .u64 (y.vl : Int)) from rfl)
    have xl := HI6.out.ebx.lt
    go_wp2_with fail
    refine HAL.out.mono ?_
    rintro r w7 ⟨rfl, hb7⟩
    have HI7 := Lib.hid (HI6.out.later hb7)
    have HS7 := Lib.hid (HS6.out.below hb7 HS6.out.lt)
    have HSV7 := Lib.hid (HSV.out.below hb7)
    clear hb7 HAL HI6 HS6 HSV x0 x1 x2 x3 x4 xl
    have HDO := Lib.hid (fbDoG HY.out (by omega) HI7.out.tw.ff HI7.out.tw.fg)
    have x0 := (HI7.out.ebx.cell 0).trans (show _ = some (Value.int .i64 y.th) from rfl)
    have x1 := (HI7.out.ebx.cell 1).trans (show _ = some (Value.int .i64 y.kd) from rfl)
    have x2 := (HI7.out.ebx.cell 2).trans (show _ = some (Value.int .i64 y.rg) from rfl)
    have x3 := (HI7.out.ebx.cell 3).trans (show _ = some (Value.int .u64 (y.tk : Int)) from rfl)
    have x4 := (HI7.out.ebx.cell 4).trans (show _ = some (Value.int .u64 (y.vl : Int)) from rfl)
    have xl := HI7.out.ebx.lt
    obtain ⟨E, hE⟩ : ∃ E, fdoE f y = E := ⟨_, rfl⟩
    rw [hE] at HDO
    go_wp2_with fail
    refine HDO.out.mono ?_
    rintro r w8 hd
    obtain ⟨rfl, hk8, z8, hI8⟩ := HI7.out.first hd
    have HS8 := Lib.hid (hk8 _ _ _ HS7.out (by decide))
    have HI8 := Lib.hid hI8
    have HSV8 : Hid (StV (stF f) BS (.agg (stC (.slice At n ct) (.slice Ar m cr) now rds en)) w8) := by
     obtain ⟨_, _, _, _, hkp, _⟩ := hd
     exact HSV7.out.kept hkp HFP.out
    clear hd hk8 hI8 HDO HI7 HS7 HSV7 HFP x0 x1 x2 x3 x4 xl
    cases ab with
    | false =>
     obtain ⟨hn0, hdf⟩ := alw_not hab
     rw [hE] at hn0
     rw [hdf] at HI8
     have e1 : (E == 0) = false := beq_eq_false_iff_ne.2 hn0
     have e2 : (E != 0) = true := by rw [bne, e1]; rfl
     clear hE hab hdf hn0
     go_upto_region 16 with (fail)
     have HSB := Lib.hid (fun (q : World) (hq : Below w8.heap.size w8 q) => HS8.out.below hq HS8.out.lt)
     have HVS := Lib.hid (fun (q : World) (hq : Below w8.heap.size w8 q) => HSV8.out.below hq)
     have HST := Lib.hid (fun (q : World) (hq : Below w8.heap.size w8 q) => fbStV (HI8.out.later hq).tw.ff (HI8.out.later hq).tw.fg (by omega) HTH.out.1 HTH.out.2)
     refine wp_region_rely (fun q => Below w8.heap.size w8 q) (bfV [.eq (.bool false), .eq (.int .i64 E), .eq (.bool false), .eq (.bool false), .eq (.bool false), .eq (.int .i64 E), .eq (.bool true), .eq (.bool true), .eq (.pointer (some ⟨F, 0, none⟩)), .of (fun u q => ∃ B, StV (stF f) B u q) (fun _ _ _ hb ⟨B, h⟩ => ⟨B, h.below hb⟩), .eq (.agg (stC (.slice At n ct) (.slice Ar m cr) now rds en)), .eq (.bool true), .eq (.bool false), .eq (.bool false), .eq (.bool false)]) [some 75, some 76, some 77, some 78, some 79, some 80, some 81, some 82, some 83, some 84, some 85, some 86, some 87, some 88, some 89] [[], [], [1], [0, 2], [3], [4], [5, 4], [6, 4], [7], [8, 7], [7], [9, 10, 7], [11, 7], [7, 12, 4], [4, 13]] [[], [], [1], [0, 1, 2], [0, 2, 3], [3], [3, 5], [3, 5, 6], [6], [6, 8], [6], [6, 8, 9, 10], [6, 9, 10, 11], [3, 6, 11, 12], [3, 12, 13]] [[1, 2, 4, 5, 6, 7, 8, 9, 10, 11, 12, 13, 14], [0, 3, 4, 5, 6, 7, 8, 9, 10, 11, 12, 13, 14], [0, 4, 5, 6, 7, 8, 9, 10, 11, 12, 13, 14], [5, 6, 7, 8, 9, 10, 11, 12, 13, 14], [8, 9, 10, 11, 12], [1, 4, 7, 8, 9, 10, 11, 12, 13, 14], [1, 4, 8, 9, 10, 11, 12, 13, 14], [1, 4, 14], [0, 1, 2, 4, 7, 10, 11, 12, 13, 14], [0, 1, 2, 4, 7, 10, 12, 13, 14], [0, 1, 2, 4, 7, 8, 9, 12, 13, 14], [0, 1, 2, 4, 7, 13, 14], [0, 1, 2, 4, 7, 14], [1, 4, 7, 8], [1, 4, 5, 7, 8, 9, 10]] [0, 1, 2, 3, 4, 5, 6, 7, 8, 9, 10, 11, 12, 13, 14] 15 (by kernel_rfl) (by kernel_rfl) (by kernel_rfl) (by kernel_rfl) ?rS (fun j h1 h2 => absurd (Nat.lt_of_lt_of_le h1 (Nat.le_trans (by decide) h2)) (Nat.lt_irrefl _)) ?rT ?rE
     case rS => exact below_drewN (Below.refl _ _) 1
     case rT =>
      refine RelySteps.cons (RelyStep.mk [] [1, 2, 4, 5, 6, 7, 8, 9, 10, 11, 12, 13, 14] rfl rfl rfl (fun xv wS hS hV bq hb K hK => ?_)) ?_
      ·clear hV
       simp only [putsOf, List.foldl_cons, List.foldl_nil, List.getD_cons_zero, List.getD_cons_succ, List.getD_nil, cond_true, cond_false, Act.put, List.setIfInBounds_toArray, List.set_cons_zero, List.set_cons_succ] at hb
       subst hb
       rw [if_pos (by rfl)]
       go_wp2_with fail
       exact hK.out _ _ ⟨_, rfl, hS, rfl, AllP.same _⟩
      refine RelySteps.cons (RelyStep.mk [] [0, 3, 4, 5, 6, 7, 8, 9, 10, 11, 12, 13, 14] rfl rfl rfl (fun xv wS hS hV bq hb K hK => ?_)) ?_
      ·clear hV
       simp only [putsOf, List.foldl_cons, List.foldl_nil, List.getD_cons_zero, List.getD_cons_succ, List.getD_nil, cond_true, cond_false, Act.put, List.setIfInBounds_toArray, List.set_cons_zero, List.set_cons_succ] at hb
       subst hb
       rw [if_pos (by rfl)]
       go_wp2_with fail
       exact hK.out _ _ ⟨_, rfl, hS, rfl, AllP.same _⟩
      refine RelySteps.cons (RelyStep.mk [1] [0, 4, 5, 6, 7, 8, 9, 10, 11, 12, 13, 14] rfl rfl rfl (fun xv wS hS hV bq hb K hK => ?_)) ?_
      ·obtain ⟨h1, _⟩ := hV
       have h1 : xv 1 = _ := h1
       simp only [putsOf, List.foldl_cons, List.foldl_nil, List.getD_cons_zero, List.getD_cons_succ, List.getD_nil, cond_true, cond_false, Act.put, List.setIfInBounds_toArray, List.set_cons_zero, List.set_cons_succ, h1] at hb
       clear h1
       subst hb
       rw [if_pos (by rfl)]
       go_wp2_with fail
       exact hK.out _ _ ⟨_, rfl, hS, rfl, AllP.same _⟩
      refine RelySteps.cons (RelyStep.mk [0, 2] [5, 6, 7, 8, 9, 10, 11, 12, 13, 14] rfl rfl rfl (fun xv wS hS hV bq hb K hK => ?_)) ?_
      ·obtain ⟨h0, h2, _⟩ := hV
       have h0 : xv 0 = _ := h0
       have h2 : xv 2 = _ := h2
       simp only [putsOf, List.foldl_cons, List.foldl_nil, List.getD_cons_zero, List.getD_cons_succ, List.getD_nil, cond_true, cond_false, Act.put, List.setIfInBounds_toArray, List.set_cons_zero, List.set_cons_succ, h0, h2] at hb
       clear h0
       clear h2
       subst hb
       rw [if_pos (by rfl)]
       go_wp2_with fail
       exact hK.out _ _ ⟨_, rfl, hS, rfl, AllP.same _⟩
      refine RelySteps.cons (RelyStep.mk [3] [8, 9, 10, 11, 12] rfl rfl rfl (fun xv wS hS hV bq hb K hK => ?_)) ?_
      ·obtain ⟨h3, _⟩ := hV
       have h3 : xv 3 = _ := h3
       simp only [putsOf, List.foldl_cons, List.foldl_nil, List.getD_cons_zero, List.getD_cons_succ, List.getD_nil, cond_true, cond_false, Act.put, List.setIfInBounds_toArray, List.set_cons_zero, List.set_cons_succ, h3] at hb
       clear h3
       subst hb
       rw [if_pos (by rfl)]
       go_wp2_with fail
       exact hK.out _ _ ⟨_, rfl, hS, rfl, AllP.same _⟩
      refine RelySteps.cons (RelyStep.mk [4] [1, 4, 7, 8, 9, 10, 11, 12, 13, 14] rfl rfl rfl (fun xv wS hS hV bq hb K hK => ?_)) ?_
      ·obtain ⟨h4, _⟩ := hV
       have h4 : xv 4 = _ := h4
       simp only [putsOf, List.foldl_cons, List.foldl_nil, List.getD_cons_zero, List.getD_cons_succ, List.getD_nil, cond_true, cond_false, Act.put, List.setIfInBounds_toArray, List.set_cons_zero, List.set_cons_succ, h4] at hb
       clear h4
       subst hb
       rw [if_pos (by rfl)]
       go_wp2_with fail
       exact hK.out _ _ ⟨_, rfl, hS, rfl, AllP.same _⟩
      refine RelySteps.cons (RelyStep.mk [5, 4] [1, 4, 8, 9, 10, 11, 12, 13, 14] rfl rfl rfl (fun xv wS hS hV bq hb K hK => ?_)) ?_
      ·obtain ⟨h5, h4, _⟩ := hV
       have h5 : xv 5 = _ := h5
       have h4 : xv 4 = _ := h4
       simp only [putsOf, List.foldl_cons, List.foldl_nil, List.getD_cons_zero, List.getD_cons_succ, List.getD_nil, cond_true, cond_false, Act.put, List.setIfInBounds_toArray, List.set_cons_zero, List.set_cons_succ, h5, h4] at hb
       clear h5
       clear h4
       subst hb
       rw [if_pos (by rfl)]
       go_wp2_with fail
       exact hK.out _ _ ⟨_, rfl, hS, rfl, AllP.same _⟩
      refine RelySteps.cons (RelyStep.mk [6, 4] [1, 4, 14] rfl rfl rfl (fun xv wS hS hV bq hb K hK => ?_)) ?_
      ·obtain ⟨h6, h4, _⟩ := hV
       have h6 : xv 6 = _ := h6
       have h4 : xv 4 = _ := h4
       simp only [putsOf, List.foldl_cons, List.foldl_nil, List.getD_cons_zero, List.getD_cons_succ, List.getD_nil, cond_true, cond_false, Act.put, List.setIfInBounds_toArray, List.set_cons_zero, List.set_cons_succ, h6, h4] at hb
       clear h6
       clear h4
       subst hb
       rw [if_pos (by rfl)]
       go_wp2_with fail
       exact hK.out _ _ ⟨_, rfl, hS, rfl, AllP.same _⟩
      refine RelySteps.cons (RelyStep.mk [7] [0, 1, 2, 4, 7, 10, 11, 12, 13, 14] rfl rfl rfl (fun xv wS hS hV bq hb K hK => ?_)) ?_
      ·obtain ⟨h7, _⟩ := hV
       have h7 : xv 7 = _ := h7
       simp only [putsOf, List.foldl_cons, List.foldl_nil, List.getD_cons_zero, List.getD_cons_succ, List.getD_nil, cond_true, cond_false, Act.put, List.setIfInBounds_toArray, List.set_cons_zero, List.set_cons_succ, h7] at hb
       clear h7
       subst hb
       rw [if_pos (by rfl)]
       go_wp2_with fail
       exact hK.out _ _ ⟨_, rfl, hS, rfl, AllP.same _⟩
      refine RelySteps.cons (RelyStep.mk [8, 7] [0, 1, 2, 4, 7, 10, 12, 13, 14] rfl rfl rfl (fun xv wS hS hV bq hb K hK => ?_)) ?_
      ·obtain ⟨h8, h7, _⟩ := hV
       have h8 : xv 8 = _ := h8
       have h7 : xv 7 = _ := h7
       simp only [putsOf, List.foldl_cons, List.foldl_nil, List.getD_cons_zero, List.getD_cons_succ, List.getD_nil, cond_true, cond_false, Act.put, List.setIfInBounds_toArray, List.set_cons_zero, List.set_cons_succ, h8, h7] at hb
       clear h8
       clear h7
       subst hb
       rw [if_pos (by rfl)]
       have HSS := Lib.hid hS
       clear hS
       go_wp2_with fail
       refine (HST.out wS HSS.out).mono ?_
       rintro r w' ⟨v, rfl, hv, hb⟩
       exact hK.out _ _ ⟨_, rfl, then_ HSS.out hb, ⟨_, hv⟩, AllP.of _ (fun j _ _ h => bfV_below hb h)⟩
      refine RelySteps.cons (RelyStep.mk [7] [0, 1, 2, 4, 7, 8, 9, 12, 13, 14] rfl rfl rfl (fun xv wS hS hV bq hb K hK => ?_)) ?_
      ·obtain ⟨h7, _⟩ := hV
       have h7 : xv 7 = _ := h7
       simp only [putsOf, List.foldl_cons, List.foldl_nil, List.getD_cons_zero, List.getD_cons_succ, List.getD_nil, cond_true, cond_false, Act.put, List.setIfInBounds_toArray, List.set_cons_zero, List.set_cons_succ, h7] at hb
       clear h7
       subst hb
       rw [if_pos (by rfl)]
       (have l5 := HSB.out _ hS; have q0 := (l5.cell 0).trans (show _ = some (Value.slice At n ct) from rfl); have q1 := (l5.cell 1).trans (show _ = some (Value.slice Ar m cr) from rfl); have q2 := (l5.cell 2).trans (show _ = some (Value.int .u64 (now : Int)) from rfl); have q3 := (l5.cell 3).trans (show _ = some (Value.int .u64 (rds : Int)) from rfl); have q4 := (l5.cell 4).trans (show _ = some (Value.bool en) from rfl); have q5 := l5.lt; clear l5)
       go_wp2_with fail
       exact hK.out _ _ ⟨_, rfl, hS, rfl, AllP.same _⟩
      refine RelySteps.cons (RelyStep.mk [9, 10, 7] [0, 1, 2, 4, 7, 13, 14] rfl rfl rfl (fun xv wS hS hV bq hb K hK => ?_)) ?_
      ·obtain ⟨h9, h10, h7, _⟩ := hV
       have h10 : xv 10 = _ := h10
       have h7 : xv 7 = _ := h7
       simp only [putsOf, List.foldl_cons, List.foldl_nil, List.getD_cons_zero, List.getD_cons_succ, List.getD_nil, cond_true, cond_false, Act.put, List.setIfInBounds_toArray, List.set_cons_zero, List.set_cons_succ, h10, h7] at hb
       generalize xv 9 = y9 at *
       clear h10
       clear h7
       subst hb
       rw [if_pos (by rfl)]
       obtain ⟨B1, s1⟩ := h9
       have HSM := Lib.hid (stSameV s1 (HVS.out _ hS))
       have HSS := Lib.hid hS
       clear hS s1
       go_wp2_with fail
       refine HSM.out.mono ?_
       rintro r w' ⟨rfl, hb⟩
       exact hK.out _ _ ⟨_, rfl, then_ HSS.out hb, rfl, AllP.of _ (fun j _ _ h => bfV_below hb h)⟩
      refine RelySteps.cons (RelyStep.mk [11, 7] [0, 1, 2, 4, 7, 14] rfl rfl rfl (fun xv wS hS hV bq hb K hK => ?_)) ?_
      ·obtain ⟨h11, h7, _⟩ := hV
       have h11 : xv 11 = _ := h11
       have h7 : xv 7 = _ := h7
       simp only [putsOf, List.foldl_cons, List.foldl_nil, List.getD_cons_zero, List.getD_cons_succ, List.getD_nil, cond_true, cond_false, Act.put, List.setIfInBounds_toArray, List.set_cons_zero, List.set_cons_succ, h11, h7] at hb
       clear h11
       clear h7
       subst hb
       rw [if_pos (by rfl)]
       go_wp2_with fail
       exact hK.out _ _ ⟨_, rfl, hS, rfl, AllP.same _⟩
      refine RelySteps.cons (RelyStep.mk [7, 12, 4] [1, 4, 7, 8] rfl rfl rfl (fun xv wS hS hV bq hb K hK => ?_)) ?_
      ·obtain ⟨h7, h12, h4, _⟩ := hV
       have h7 : xv 7 = _ := h7
       have h12 : xv 12 = _ := h12
       have h4 : xv 4 = _ := h4
       simp only [putsOf, List.foldl_cons, List.foldl_nil, List.getD_cons_zero, List.getD_cons_succ, List.getD_nil, cond_true, cond_false, Act.put, List.setIfInBounds_toArray, List.set_cons_zero, List.set_cons_succ, h7, h12, h4] at hb
       clear h7
       clear h12
       clear h4
       subst hb
       rw [if_pos (by rfl)]
       go_wp2_with fail
       exact hK.out _ _ ⟨_, rfl, hS, rfl, AllP.same _⟩
      refine RelySteps.cons (RelyStep.mk [4, 13] [1, 4, 5, 7, 8, 9, 10] rfl rfl rfl (fun xv wS hS hV bq hb K hK => ?_)) ?_
      ·obtain ⟨h4, h13, _⟩ := hV
       have h4 : xv 4 = _ := h4
       have h13 : xv 13 = _ := h13
       simp only [putsOf, List.foldl_cons, List.foldl_nil, List.getD_cons_zero, List.getD_cons_succ, List.getD_nil, cond_true, cond_false, Act.put, List.setIfInBounds_toArray, List.set_cons_zero, List.set_cons_succ, h4, h13] at hb
       clear h4
       clear h13
       subst hb
       rw [if_pos (by rfl)]
       go_wp2_with fail
       exact hK.out _ _ ⟨_, rfl, hS, rfl, AllP.same _⟩
      exact RelySteps.nil
     case rE =>
     intro xv wE hS hV
     have h4 := hV 4 (by decide) (by decide)
     have h7 := hV 7 (by decide) (by decide)
     have h14 := hV 14 (by decide) (by decide)
     clear hV
     simp only [putsOf, List.foldl_cons, List.foldl_nil, List.getD_cons_zero, List.getD_cons_succ, List.getD_nil, cond_true, cond_false, Act.put, List.setIfInBounds_toArray, List.set_cons_zero, List.set_cons_succ]
     have h4 : xv 4 = _ := h4
     have h7 : xv 7 = _ := h7
     have h14 : xv 14 = _ := h14
     rw [h4]; clear h4
     rw [h7]; clear h7
     rw [h14]; clear h14
     generalize xv 0 = y0 at *
     generalize xv 1 = y1 at *
     generalize xv 2 = y2 at *
     generalize xv 3 = y3 at *
     generalize xv 5 = y5 at *
     generalize xv 6 = y6 at *
     generalize xv 8 = y8 at *
     generalize xv 9 = y9 at *
     generalize xv 10 = y10 at *
     generalize xv 11 = y11 at *
     generalize xv 12 = y12 at *
     generalize xv 13 = y13 at *
     have HI9 := Lib.hid (HI8.out.later hS)
     have HS9 := Lib.hid (HS8.out.below hS HS8.out.lt)
     have HSV9 := Lib.hid (HSV8.out.below hS)
     clear hS HSB HVS HST HI8 HS8 HSV8
     generalize wE = w9 at *
     go_upto_region 18 with (fail)
     have HSB := Lib.hid (fun (q : World) (hq : Below w9.heap.size w9 q) => HS9.out.below hq HS9.out.lt)
     have HVS := Lib.hid (fun (q : World) (hq : Below w9.heap.size w9 q) => HSV9.out.below hq)
     have HST := Lib.hid (fun (q : World) (hq : Below w9.heap.size w9 q) => fbStV (HI9.out.later hq).tw.gf (HI9.out.later hq).tw.gg (by omega) HTH.out.1 HTH.out.2)
     refine wp_region_rely (fun q => Below w9.heap.size w9 q) (bfV [.eq (.bool false), .eq (.bool true), .eq (.bool true), .eq undef, .eq undef, .eq undef, .eq undef, .eq undef, .eq undef, .eq undef, .eq undef, .eq undef, .eq undef, .eq undef, .eq (.bool true), .eq (.bool true), .eq (.bool false), .eq (.bool false), .eq (.pointer (some ⟨G, 0, none⟩)), .of (fun u q => ∃ B, StV (stF f) B u q) (fun _ _ _ hb ⟨B, h⟩ => ⟨B, h.below hb⟩), .eq (.agg (stC (.slice At n ct) (.slice Ar m cr) now rds en)), .eq (.bool true), .eq (.bool true), .eq (.bool true), .eq (.bool true)]) [some 90, some 91, some 92, some 93, some 94, some 95, some 96, some 97, some 98, some 99, some 100, some 101, some 102, some 103, some 104, some 105, some 106, some 107, some 108, some 109, some 110, some 111, some 112, some 113, some 6] [[], [0], [1], [2], [2], [3, 4, 2], [5, 2], [6, 2], [7], [8, 7], [7], [10, 7], [9, 11, 7], [7, 12, 2], [2, 13], [14], [15], [16, 15], [17], [18, 17], [17], [19, 20, 17], [17, 21, 15], [15, 22], [23]] [[], [0], [0, 1], [1], [1], [1, 3, 4], [1, 3, 4, 5], [1, 3, 4, 5, 6], [6], [6, 8], [6], [6, 8, 10], [6, 8, 9, 10, 11], [1, 6, 9, 11, 12], [1, 12, 13], [9, 11, 13, 14], [14], [14, 16], [16], [16, 18], [16], [16, 18, 19, 20], [14, 16, 19, 20, 21], [14, 21, 22], [0, 1, 2, 3, 4, 5, 6, 7, 8, 9, 10, 11, 12, 13, 14, 15, 16, 17, 18, 19, 20, 21, 22, 23]] [[2, 3, 4, 5, 6, 7, 8, 9, 10, 11, 12, 13, 14, 15, 16, 17, 18, 19, 20, 21, 22, 23], [3, 4, 5, 6, 7, 8, 9, 10, 11, 12, 13, 14, 15, 16, 17, 18, 19, 20, 21, 22, 23], [8, 9, 10, 11, 12, 15, 16, 17, 18, 19, 20, 21, 22, 23], [2, 4, 6, 7, 8, 9, 10, 11, 12, 13, 14, 15, 16, 17, 18, 19, 20, 21, 22, 23], [2, 3, 6, 7, 8, 9, 10, 11, 12, 13, 14, 15, 16, 17, 18, 19, 20, 21, 22, 23], [2, 8, 9, 10, 11, 12, 13, 14, 15, 16, 17, 18, 19, 20, 21, 22, 23], [2, 8, 9, 10, 11, 12, 13, 14, 15, 16, 17, 18, 19, 20, 21, 22, 23], [2, 14, 15, 16, 17, 18, 19, 20, 21, 22, 23], [0, 2, 7, 10, 11, 12, 13, 14, 15, 16, 17, 18, 19, 20, 21, 22, 23], [0, 2, 7, 10, 13, 14, 15, 16, 17, 18, 19, 20, 21, 22, 23], [0, 2, 7, 8, 9, 12, 13, 14, 15, 16, 17, 18, 19, 20, 21, 22, 23], [0, 2, 7, 9, 13, 14, 15, 16, 17, 18, 19, 20, 21, 22, 23], [0, 2, 7, 14, 16, 17, 18, 19, 20, 21, 22, 23], [2, 7, 15, 16, 17, 18, 19, 20, 21, 22, 23], [2, 3, 4, 5, 7, 8, 10, 16, 17, 18, 19, 20, 21, 22, 23], [0, 2, 3, 4, 5, 7, 18, 19, 20, 21], [0, 1, 2, 3, 4, 5, 6, 7, 8, 10, 12, 15, 18, 19, 20, 21, 22, 23], [0, 1, 2, 3, 4, 5, 6, 7, 8, 10, 12, 15, 23], [0, 1, 2, 3, 4, 5, 6, 7, 8, 9, 10, 11, 12, 13, 15, 17, 20, 21, 22, 23], [0, 1, 2, 3, 4, 5, 6, 7, 8, 9, 10, 11, 12, 13, 15, 17, 20, 22, 23], [0, 1, 2, 3, 4, 5, 6, 7, 8, 9, 10, 11, 12, 13, 15, 17, 18, 19, 22, 23], [0, 1, 2, 3, 4, 5, 6, 7, 8, 9, 10, 11, 12, 13, 15, 17, 23], [0, 1, 2, 3, 4, 5, 6, 7, 8, 10, 12, 15, 17], [0, 1, 2, 3, 4, 5, 6, 7, 8, 10, 12, 15, 17, 18], []] [0, 1, 2, 3, 4, 5, 6, 7, 8, 9, 10, 11, 12, 13, 14, 15, 16, 17, 18, 19, 20, 21, 22, 23, 24] 25 (by kernel_rfl) (by kernel_rfl) (by kernel_rfl) (by kernel_rfl) ?rS (fun j h1 h2 => absurd (Nat.lt_of_lt_of_le h1 (Nat.le_trans (by decide) h2)) (Nat.lt_irrefl _)) ?rT ?rE
     case rS => exact below_drewN (Below.refl _ _) 1
     case rT =>
      refine RelySteps.cons (RelyStep.mk [] [2, 3, 4, 5, 6, 7, 8, 9, 10, 11, 12, 13, 14, 15, 16, 17, 18, 19, 20, 21, 22, 23] rfl rfl rfl (fun xv wS hS hV bq hb K hK => ?_)) ?_
      ·clear hV
       simp only [putsOf, List.foldl_cons, List.foldl_nil, List.getD_cons_zero, List.getD_cons_succ, List.getD_nil, cond_true, cond_false, Act.put, List.setIfInBounds_toArray, List.set_cons_zero, List.set_cons_succ] at hb
       subst hb
       rw [if_pos (by rfl)]
       go_wp2_with fail
       exact hK.out _ _ ⟨_, rfl, hS, rfl, AllP.same _⟩
      refine RelySteps.cons (RelyStep.mk [0] [3, 4, 5, 6, 7, 8, 9, 10, 11, 12, 13, 14, 15, 16, 17, 18, 19, 20, 21, 22, 23] rfl rfl rfl (fun xv wS hS hV bq hb K hK => ?_)) ?_
      ·obtain ⟨h0, _⟩ := hV
       have h0 : xv 0 = _ := h0
       simp only [putsOf, List.foldl_cons, List.foldl_nil, List.getD_cons_zero, List.getD_cons_succ, List.getD_nil, cond_true, cond_false, Act.put, List.setIfInBounds_toArray, List.set_cons_zero, List.set_cons_succ, h0] at hb
       clear h0
       subst hb
       rw [if_pos (by rfl)]
       go_wp2_with fail
       exact hK.out _ _ ⟨_, rfl, hS, rfl, AllP.same _⟩
      refine RelySteps.cons (RelyStep.mk [1] [8, 9, 10, 11, 12, 15, 16, 17, 18, 19, 20, 21, 22, 23] rfl rfl rfl (fun xv wS hS hV bq hb K hK => ?_)) ?_
      ·obtain ⟨h1, _⟩ := hV
       have h1 : xv 1 = _ := h1
       simp only [putsOf, List.foldl_cons, List.foldl_nil, List.getD_cons_zero, List.getD_cons_succ, List.getD_nil, cond_true, cond_false, Act.put, List.setIfInBounds_toArray, List.set_cons_zero, List.set_cons_succ, h1] at hb
       clear h1
       subst hb
       rw [if_pos (by rfl)]
       go_wp2_with fail
       exact hK.out _ _ ⟨_, rfl, hS, rfl, AllP.same _⟩
      refine RelySteps.cons (RelyStep.mk [2] [2, 4, 6, 7, 8, 9, 10, 11, 12, 13, 14, 15, 16, 17, 18, 19, 20, 21, 22, 23] rfl rfl rfl (fun xv wS hS hV bq hb K hK => ?_)) ?_
      ·obtain ⟨h2, _⟩ := hV
       have h2 : xv 2 = _ := h2
       simp only [putsOf, List.foldl_cons, List.foldl_nil, List.getD_cons_zero, List.getD_cons_succ, List.getD_nil, cond_true, cond_false, Act.put, List.setIfInBounds_toArray, List.set_cons_zero, List.set_cons_succ, h2] at hb
       clear h2
       subst hb
       refine not_wanted (by rfl) ?_
       exact hK.out _ _ ⟨undef, rfl, hS, rfl, AllP.same _⟩
      refine RelySteps.cons (RelyStep.mk [2] [2, 3, 6, 7, 8, 9, 10, 11, 12, 13, 14, 15, 16, 17, 18, 19, 20, 21, 22, 23] rfl rfl rfl (fun xv wS hS hV bq hb K hK => ?_)) ?_
      ·obtain ⟨h2, _⟩ := hV
       have h2 : xv 2 = _ := h2
       simp only [putsOf, List.foldl_cons, List.foldl_nil, List.getD_cons_zero, List.getD_cons_succ, List.getD_nil, cond_true, cond_false, Act.put, List.setIfInBounds_toArray, List.set_cons_zero, List.set_cons_succ, h2] at hb
       clear h2
       subst hb
       refine not_wanted (by rfl) ?_
       exact hK.out _ _ ⟨undef, rfl, hS, rfl, AllP.same _⟩
      refine RelySteps.cons (RelyStep.mk [3, 4, 2] [2, 8, 9, 10, 11, 12, 13, 14, 15, 16, 17, 18, 19, 20, 21, 22, 23] rfl rfl rfl (fun xv wS hS hV bq hb K hK => ?_)) ?_
      ·obtain ⟨h3, h4, h2, _⟩ := hV
       have h3 : xv 3 = _ := h3
       have h4 : xv 4 = _ := h4
       have h2 : xv 2 = _ := h2
       simp only [putsOf, List.foldl_cons, List.foldl_nil, List.getD_cons_zero, List.getD_cons_succ, List.getD_nil, cond_true, cond_false, Act.put, List.setIfInBounds_toArray, List.set_cons_zero, List.set_cons_succ, h3, h4, h2] at hb
       clear h3
       clear h4
       clear h2
       subst hb
       refine not_wanted (by rfl) ?_
       exact hK.out _ _ ⟨undef, rfl, hS, rfl, AllP.same _⟩
      refine RelySteps.cons (RelyStep.mk [5, 2] [2, 8, 9, 10, 11, 12, 13, 14, 15, 16, 17, 18, 19, 20, 21, 22, 23] rfl rfl rfl (fun xv wS hS hV bq hb K hK => ?_)) ?_
      ·obtain ⟨h5, h2, _⟩ := hV
       have h5 : xv 5 = _ := h5
       have h2 : xv 2 = _ := h2
       simp only [putsOf, List.foldl_cons, List.foldl_nil, List.getD_cons_zero, List.getD_cons_succ, List.getD_nil, cond_true, cond_false, Act.put, List.setIfInBounds_toArray, List.set_cons_zero, List.set_cons_succ, h5, h2] at hb
       clear h5
       clear h2
       subst hb
       refine not_wanted (by rfl) ?_
       exact hK.out _ _ ⟨undef, rfl, hS, rfl, AllP.same _⟩
      refine RelySteps.cons (RelyStep.mk [6, 2] [2, 14, 15, 16, 17, 18, 19, 20, 21, 22, 23] rfl rfl rfl (fun xv wS hS hV bq hb K hK => ?_)) ?_
      ·obtain ⟨h6, h2, _⟩ := hV
       have h6 : xv 6 = _ := h6
       have h2 : xv 2 = _ := h2
       simp only [putsOf, List.foldl_cons, List.foldl_nil, List.getD_cons_zero, List.getD_cons_succ, List.getD_nil, cond_true, cond_false, Act.put, List.setIfInBounds_toArray, List.set_cons_zero, List.set_cons_succ, h6, h2] at hb
       clear h6
       clear h2
       subst hb
       refine not_wanted (by rfl) ?_
       exact hK.out _ _ ⟨undef, rfl, hS, rfl, AllP.same _⟩
      refine RelySteps.cons (RelyStep.mk [7] [0, 2, 7, 10, 11, 12, 13, 14, 15, 16, 17, 18, 19, 20, 21, 22, 23] rfl rfl rfl (fun xv wS hS hV bq hb K hK => ?_)) ?_
      ·obtain ⟨h7, _⟩ := hV
       have h7 : xv 7 = _ := h7
       simp only [putsOf, List.foldl_cons, List.foldl_nil, List.getD_cons_zero, List.getD_cons_succ, List.getD_nil, cond_true, cond_false, Act.put, List.setIfInBounds_toArray, List.set_cons_zero, List.set_cons_succ, h7] at hb
       clear h7
       subst hb
       refine not_wanted (by rfl) ?_
       exact hK.out _ _ ⟨undef, rfl, hS, rfl, AllP.same _⟩
      refine RelySteps.cons (RelyStep.mk [8, 7] [0, 2, 7, 10, 13, 14, 15, 16, 17, 18, 19, 20, 21, 22, 23] rfl rfl rfl (fun xv wS hS hV bq hb K hK => ?_)) ?_
      ·obtain ⟨h8, h7, _⟩ := hV
       have h8 : xv 8 = _ := h8
       have h7 : xv 7 = _ := h7
       simp only [putsOf, List.foldl_cons, List.foldl_nil, List.getD_cons_zero, List.getD_cons_succ, List.getD_nil, cond_true, cond_false, Act.put, List.setIfInBounds_toArray, List.set_cons_zero, List.set_cons_succ, h8, h7] at hb
       clear h8
       clear h7
       subst hb
       refine not_wanted (by rfl) ?_
       exact hK.out _ _ ⟨undef, rfl, hS, rfl, AllP.same _⟩
      refine RelySteps.cons (RelyStep.mk [7] [0, 2, 7, 8, 9, 12, 13, 14, 15, 16, 17, 18, 19, 20, 21, 22, 23] rfl rfl rfl (fun xv wS hS hV bq hb K hK => ?_)) ?_
      ·obtain ⟨h7, _⟩ := hV
       have h7 : xv 7 = _ := h7
       simp only [putsOf, List.foldl_cons, List.foldl_nil, List.getD_cons_zero, List.getD_cons_succ, List.getD_nil, cond_true, cond_false, Act.put, List.setIfInBounds_toArray, List.set_cons_zero, List.set_cons_succ, h7] at hb
       clear h7
       subst hb
       refine not_wanted (by rfl) ?_
       exact hK.out _ _ ⟨undef, rfl, hS, rfl, AllP.same _⟩
      refine RelySteps.cons (RelyStep.mk [10, 7] [0, 2, 7, 9, 13, 14, 15, 16, 17, 18, 19, 20, 21, 22, 23] rfl rfl rfl (fun xv wS hS hV bq hb K hK => ?_)) ?_
      ·obtain ⟨h10, h7, _⟩ := hV
       have h10 : xv 10 = _ := h10
       have h7 : xv 7 = _ := h7
       simp only [putsOf, List.foldl_cons, List.foldl_nil, List.getD_cons_zero, List.getD_cons_succ, List.getD_nil, cond_true, cond_false, Act.put, List.setIfInBounds_toArray, List.set_cons_zero, List.set_cons_succ, h10, h7] at hb
       clear h10
       clear h7
       subst hb
       refine not_wanted (by rfl) ?_
       exact hK.out _ _ ⟨undef, rfl, hS, rfl, AllP.same _⟩
      refine RelySteps.cons (RelyStep.mk [9, 11, 7] [0, 2, 7, 14, 16, 17, 18, 19, 20, 21, 22, 23] rfl rfl rfl (fun xv wS hS hV bq hb K hK => ?_)) ?_
      ·obtain ⟨h9, h11, h7, _⟩ := hV
       have h9 : xv 9 = _ := h9
       have h11 : xv 11 = _ := h11
       have h7 : xv 7 = _ := h7
       simp only [putsOf, List.foldl_cons, List.foldl_nil, List.getD_cons_zero, List.getD_cons_succ, List.getD_nil, cond_true, cond_false, Act.put, List.setIfInBounds_toArray, List.set_cons_zero, List.set_cons_succ, h9, h11, h7] at hb
       clear h9
       clear h11
       clear h7
       subst hb
       refine not_wanted (by rfl) ?_
       exact hK.out _ _ ⟨undef, rfl, hS, rfl, AllP.same _⟩
      refine RelySteps.cons (RelyStep.mk [7, 12, 2] [2, 7, 15, 16, 17, 18, 19, 20, 21, 22, 23] rfl rfl rfl (fun xv wS hS hV bq hb K hK => ?_)) ?_
      ·obtain ⟨h7, h12, h2, _⟩ := hV
       have h7 : xv 7 = _ := h7
       have h12 : xv 12 = _ := h12
       have h2 : xv 2 = _ := h2
       simp only [putsOf, List.foldl_cons, List.foldl_nil, List.getD_cons_zero, List.getD_cons_succ, List.getD_nil, cond_true, cond_false, Act.put, List.setIfInBounds_toArray, List.set_cons_zero, List.set_cons_succ, h7, h12, h2] at hb
       clear h7
       clear h12
       clear h2
       subst hb
       refine not_wanted (by rfl) ?_
       exact hK.out _ _ ⟨undef, rfl, hS, rfl, AllP.same _⟩
      refine RelySteps.cons (RelyStep.mk [2, 13] [2, 3, 4, 5, 7, 8, 10, 16, 17, 18, 19, 20, 21, 22, 23] rfl rfl rfl (fun xv wS hS hV bq hb K hK => ?_)) ?_
      ·obtain ⟨h2, h13, _⟩ := hV
       have h2 : xv 2 = _ := h2
       have h13 : xv 13 = _ := h13
       simp only [putsOf, List.foldl_cons, List.foldl_nil, List.getD_cons_zero, List.getD_cons_succ, List.getD_nil, cond_true, cond_false, Act.put, List.setIfInBounds_toArray, List.set_cons_zero, List.set_cons_succ, h2, h13] at hb
       clear h2
       clear h13
       subst hb
       rw [if_pos (by rfl)]
       go_wp2_with fail
       exact hK.out _ _ ⟨_, rfl, hS, rfl, AllP.same _⟩
      refine RelySteps.cons (RelyStep.mk [14] [0, 2, 3, 4, 5, 7, 18, 19, 20, 21] rfl rfl rfl (fun xv wS hS hV bq hb K hK => ?_)) ?_
      ·obtain ⟨h14, _⟩ := hV
       have h14 : xv 14 = _ := h14
       simp only [putsOf, List.foldl_cons, List.foldl_nil, List.getD_cons_zero, List.getD_cons_succ, List.getD_nil, cond_true, cond_false, Act.put, List.setIfInBounds_toArray, List.set_cons_zero, List.set_cons_succ, h14] at hb
       clear h14
       subst hb
       rw [if_pos (by rfl)]
       go_wp2_with fail
       exact hK.out _ _ ⟨_, rfl, hS, rfl, AllP.same _⟩
      refine RelySteps.cons (RelyStep.mk [15] [0, 1, 2, 3, 4, 5, 6, 7, 8, 10, 12, 15, 18, 19, 20, 21, 22, 23] rfl rfl rfl (fun xv wS hS hV bq hb K hK => ?_)) ?_
      ·obtain ⟨h15, _⟩ := hV
       have h15 : xv 15 = _ := h15
       simp only [putsOf, List.foldl_cons, List.foldl_nil, List.getD_cons_zero, List.getD_cons_succ, List.getD_nil, cond_true, cond_false, Act.put, List.setIfInBounds_toArray, List.set_cons_zero, List.set_cons_succ, h15] at hb
       clear h15
       subst hb
       rw [if_pos (by rfl)]
       go_wp2_with fail
       exact hK.out _ _ ⟨_, rfl, hS, rfl, AllP.same _⟩
      refine RelySteps.cons (RelyStep.mk [16, 15] [0, 1, 2, 3, 4, 5, 6, 7, 8, 10, 12, 15, 23] rfl rfl rfl (fun xv wS hS hV bq hb K hK => ?_)) ?_
      ·obtain ⟨h16, h15, _⟩ := hV
       have h16 : xv 16 = _ := h16
       have h15 : xv 15 = _ := h15
       simp only [putsOf, List.foldl_cons, List.foldl_nil, List.getD_cons_zero, List.getD_cons_succ, List.getD_nil, cond_true, cond_false, Act.put, List.setIfInBounds_toArray, List.set_cons_zero, List.set_cons_succ, h16, h15] at hb
       clear h16
       clear h15
       subst hb
       rw [if_pos (by rfl)]
       go_wp2_with fail
       exact hK.out _ _ ⟨_, rfl, hS, rfl, AllP.same _⟩
      refine RelySteps.cons (RelyStep.mk [17] [0, 1, 2, 3, 4, 5, 6, 7, 8, 9, 10, 11, 12, 13, 15, 17, 20, 21, 22, 23] rfl rfl rfl (fun xv wS hS hV bq hb K hK => ?_)) ?_
      ·obtain ⟨h17, _⟩ := hV
       have h17 : xv 17 = _ := h17
       simp only [putsOf, List.foldl_cons, List.foldl_nil, List.getD_cons_zero, List.getD_cons_succ, List.getD_nil, cond_true, cond_false, Act.put, List.setIfInBounds_toArray, List.set_cons_zero, List.set_cons_succ, h17] at hb
       clear h17
       subst hb
       rw [if_pos (by rfl)]
       go_wp2_with fail
       exact hK.out _ _ ⟨_, rfl, hS, rfl, AllP.same _⟩
      refine RelySteps.cons (RelyStep.mk [18, 17] [0, 1, 2, 3, 4, 5, 6, 7, 8, 9, 10, 11, 12, 13, 15, 17, 20, 22, 23] rfl rfl rfl (fun xv wS hS hV bq hb K hK => ?_)) ?_
      ·obtain ⟨h18, h17, _⟩ := hV
       have h18 : xv 18 = _ := h18
       have h17 : xv 17 = _ := h17
       simp only [putsOf, List.foldl_cons, List.foldl_nil, List.getD_cons_zero, List.getD_cons_succ, List.getD_nil, cond_true, cond_false, Act.put, List.setIfInBounds_toArray, List.set_cons_zero, List.set_cons_succ, h18, h17] at hb
       clear h18
       clear h17
       subst hb
       rw [if_pos (by rfl)]
       have HSS := Lib.hid hS
       clear hS
       go_wp2_with fail
       refine (HST.out wS HSS.out).mono ?_
       rintro r w' ⟨v, rfl, hv, hb⟩
       exact hK.out _ _ ⟨_, rfl, then_ HSS.out hb, ⟨_, hv⟩, AllP.of _ (fun j _ _ h => bfV_below hb h)⟩
      refine RelySteps.cons (RelyStep.mk [17] [0, 1, 2, 3, 4, 5, 6, 7, 8, 9, 10, 11, 12, 13, 15, 17, 18, 19, 22, 23] rfl rfl rfl (fun xv wS hS hV bq hb K hK => ?_)) ?_
      ·obtain ⟨h17, _⟩ := hV
       have h17 : xv 17 = _ := h17
       simp only [putsOf, List.foldl_cons, List.foldl_nil, List.getD_cons_zero, List.getD_cons_succ, List.getD_nil, cond_true, cond_false, Act.put, List.setIfInBounds_toArray, List.set_cons_zero, List.set_cons_succ, h17] at hb
       clear h17
       subst hb
       rw [if_pos (by rfl)]
       (have l5 := HSB.out _ hS; have q0 := (l5.cell 0).trans (show _ = some (Value.slice At n ct) from rfl); have q1 := (l5.cell 1).trans (show _ = some (Value.slice Ar m cr) from rfl); have q2 := (l5.cell 2).trans (show _ = some (Value.int .u64 (now : Int)) from rfl); have q3 := (l5.cell 3).trans (show _ = some (Value.int .u64 (rds : Int)) from rfl); have q4 := (l5.cell 4).trans (show _ = some (Value.bool en) from rfl); have q5 := l5.lt; clear l5)
       go_wp2_with fail
       exact hK.out _ _ ⟨_, rfl, hS, rfl, AllP.same _⟩
      refine RelySteps.cons (RelyStep.mk [19, 20, 17] [0, 1, 2, 3, 4, 5, 6, 7, 8, 9, 10, 11, 12, 13, 15, 17, 23] rfl rfl rfl (fun xv wS hS hV bq hb K hK => ?_)) ?_
      ·obtain ⟨h19, h20, h17, _⟩ := hV
       have h20 : xv 20 = _ := h20
       have h17 : xv 17 = _ := h17
       simp only [putsOf, List.foldl_cons, List.foldl_nil, List.getD_cons_zero, List.getD_cons_succ, List.getD_nil, cond_true, cond_false, Act.put, List.setIfInBounds_toArray, List.set_cons_zero, List.set_cons_succ, h20, h17] at hb
       generalize xv 19 = y19 at *
       clear h20
       clear h17
       subst hb
       rw [if_pos (by rfl)]
       obtain ⟨B1, s1⟩ := h19
       have HSM := Lib.hid (stSameV s1 (HVS.out _ hS))
       have HSS := Lib.hid hS
       clear hS s1
       go_wp2_with fail
       refine HSM.out.mono ?_
       rintro r w' ⟨rfl, hb⟩
       exact hK.out _ _ ⟨_, rfl, then_ HSS.out hb, rfl, AllP.of _ (fun j _ _ h => bfV_below hb h)⟩
      refine RelySteps.cons (RelyStep.mk [17, 21, 15] [0, 1, 2, 3, 4, 5, 6, 7, 8, 10, 12, 15, 17] rfl rfl rfl (fun xv wS hS hV bq hb K hK => ?_)) ?_
      ·obtain ⟨h17, h21, h15, _⟩ := hV
       have h17 : xv 17 = _ := h17
       have h21 : xv 21 = _ := h21
       have h15 : xv 15 = _ := h15
       simp only [putsOf, List.foldl_cons, List.foldl_nil, List.getD_cons_zero, List.getD_cons_succ, List.getD_nil, cond_true, cond_false, Act.put, List.setIfInBounds_toArray, List.set_cons_zero, List.set_cons_succ, h17, h21, h15] at hb
       clear h17
       clear h21
       clear h15
       subst hb
       rw [if_pos (by rfl)]
       go_wp2_with fail
       exact hK.out _ _ ⟨_, rfl, hS, rfl, AllP.same _⟩
      refine RelySteps.cons (RelyStep.mk [15, 22] [0, 1, 2, 3, 4, 5, 6, 7, 8, 10, 12, 15, 17, 18] rfl rfl rfl (fun xv wS hS hV bq hb K hK => ?_)) ?_
      ·obtain ⟨h15, h22, _⟩ := hV
       have h15 : xv 15 = _ := h15
       have h22 : xv 22 = _ := h22
       simp only [putsOf, List.foldl_cons, List.foldl_nil, List.getD_cons_zero, List.getD_cons_succ, List.getD_nil, cond_true, cond_false, Act.put, List.setIfInBounds_toArray, List.set_cons_zero, List.set_cons_succ, h15, h22] at hb
       clear h15
       clear h22
       subst hb
       rw [if_pos (by rfl)]
       go_wp2_with fail
       exact hK.out _ _ ⟨_, rfl, hS, rfl, AllP.same _⟩
      refine RelySteps.cons (RelyStep.mk [23] [] rfl rfl rfl (fun xv wS hS hV bq hb K hK => ?_)) ?_
      ·obtain ⟨h23, _⟩ := hV
       have h23 : xv 23 = _ := h23
       simp only [putsOf, List.foldl_cons, List.foldl_nil, List.getD_cons_zero, List.getD_cons_succ, List.getD_nil, cond_true, cond_false, Act.put, List.setIfInBounds_toArray, List.set_cons_zero, List.set_cons_succ, h23] at hb
       clear h23
       subst hb
       rw [if_pos (by rfl)]
       go_wp2_with fail
       exact hK.out _ _ ⟨_, rfl, hS, rfl, AllP.same _⟩
      exact RelySteps.nil
     case rE =>
     intro xv wE hS hV
     have h24 := hV 24 (by decide) (by decide)
     clear hV
     simp only [putsOf, List.foldl_cons, List.foldl_nil, List.getD_cons_zero, List.getD_cons_succ, List.getD_nil, cond_true, cond_false, Act.put, List.setIfInBounds_toArray, List.set_cons_zero, List.set_cons_succ]
     have h24 : xv 24 = _ := h24
     rw [h24]; clear h24
     generalize xv 0 = y0 at *
     generalize xv 1 = y1 at *
     generalize xv 2 = y2 at *
     generalize xv 3 = y3 at *
     generalize xv 4 = y4 at *
     generalize xv 5 = y5 at *
     generalize xv 6 = y6 at *
     generalize xv 7 = y7 at *
     generalize xv 8 = y8 at *
     generalize xv 9 = y9 at *
     generalize xv 10 = y10 at *
     generalize xv 11 = y11 at *
     generalize xv 12 = y12 at *
     generalize xv 13 = y13 at *
     generalize xv 14 = y14 at *
     generalize xv 15 = y15 at *
     generalize xv 16 = y16 at *
     generalize xv 17 = y17 at *
     generalize xv 18 = y18 at *
     generalize xv 19 = y19 at *
     generalize xv 20 = y20 at *
     generalize xv 21 = y21 at *
     generalize xv 22 = y22 at *
     generalize xv 23 = y23 at *
     have HB9 := Lib.hid (HI9.out.bel.trans (hS.mono HI9.out.bel.size))
     clear hS HSB HVS HST HI9 HS9 HSV9
     go_wp2_with fail
     go_ret
     exact ⟨rfl, HB9.out⟩
    | true =>
     obtain ⟨d1, d2, d3⟩ := alw_does hab
     have d0 := Lib.hid d1
     rw [hE] at d1
     subst d1
     clear hE hab
     go_upto_region 16 with (fail)
     go_quiet (fail)
     have hk18 := below_drewN (Below.refl w8.heap.size w8) nq
     have HI9 := Lib.hid (HI8.out.later hk18)
     clear hk18 HI8 HS8 HSV8
     generalize w8.drewN nq = w9 at *
     have HD := Lib.hid (And.intro d2 d3)
     have HPP7 : Hid ((doF f y).p.ts.length ≤ 8 ∧ (doF f y).p.rs.length ≤ 8) := by rw [show (doF f y).p = f.p by unfold doF; rw [if_pos d0.out, perfF_p]]; exact HTH.out
     clear d0 d2 d3
     obtain ⟨f7, hf7⟩ : ∃ g, doF f y = g := ⟨_, rfl⟩
     rw [hf7] at HI9 HD HPP7
     clear hf7
     go_upto_region 18 with (fail)
     refine wp_region_relyx (CsS 5 [6, 7, 8, 9, 10, 11] (fun q => RwAt w (pgC A c Q d p) (evC y) F G f7 f (l.length + 1) l.length z8 zg q) (EbC w (evC y))) (bfV [.eq (.bool true), .eq (.bool false), .eq (.bool false), .eq (.pointer (some ⟨G, 0, none⟩)), .eq (.agg (evC y)), .of (fun u q => u = .int .i64 0 ∧ ∃ zq, RwAt w (pgC A c Q d p) (evC y) F G f7 f7 (l.length + 1) (l.length + 1) z8 zq q) (fun _ _ _ hb ⟨e, zq, h⟩ => ⟨e, zq, h.later hb⟩), .of (fun u q => u = .bool true ∧ ∃ zq, RwAt w (pgC A c Q d p) (evC y) F G f7 f7 (l.length + 1) (l.length + 1) z8 zq q) (fun _ _ _ hb ⟨e, zq, h⟩ => ⟨e, zq, h.later hb⟩), .of (fun u q => u = .bool true ∧ ∃ zq, RwAt w (pgC A c Q d p) (evC y) F G f7 f7 (l.length + 1) (l.length + 1) z8 zq q) (fun _ _ _ hb ⟨e, zq, h⟩ => ⟨e, zq, h.later hb⟩), .of (fun u q => u = .pointer (some ⟨F, 0, none⟩) ∧ ∃ zq, RwAt w (pgC A c Q d p) (evC y) F G f7 f7 (l.length + 1) (l.length + 1) z8 zq q) (fun _ _ _ hb ⟨e, zq, h⟩ => ⟨e, zq, h.later hb⟩), .of (fun u q => ∃ B, StV (stF f7) B u q) (fun _ _ _ hb ⟨B, h⟩ => ⟨B, h.below hb⟩), .of (fun u q => u = .pointer (some ⟨G, 0, none⟩) ∧ ∃ zq, RwAt w (pgC A c Q d p) (evC y) F G f7 f7 (l.length + 1) (l.length + 1) z8 zq q) (fun _ _ _ hb ⟨e, zq, h⟩ => ⟨e, zq, h.later hb⟩), .of (fun u q => ∃ B, StV (stF f7) B u q) (fun _ _ _ hb ⟨B, h⟩ => ⟨B, h.below hb⟩), .eq (.bool true), .eq (.bool true), .eq (.bool true), .eq (.bool true), .eq (.bool true), .eq (.bool true), .eq undef, .eq undef, .eq undef, .eq undef, .eq (.bool true), .eq (.bool true), .eq (.bool true)]) [some 90, some 91, some 92, some 93, some 94, some 95, some 96, some 97, some 98, some 99, some 100, some 101, some 102, some 103, some 104, some 105, some 106, some 107, some 108, some 109, some 110, some 111, some 112, some 113, some 6] [[], [0], [1], [2], [2], [3, 4, 2], [5, 2], [6, 2], [7], [8, 7], [7], [10, 7], [9, 11, 7], [7, 12, 2], [2, 13], [14], [15], [16, 15], [17], [18, 17], [17], [19, 20, 17], [17, 21, 15], [15, 22], [23]] [[], [0], [0, 1], [1], [1], [1, 3, 4], [1, 3, 4, 5], [1, 3, 4, 5, 6], [6], [6, 8], [6], [6, 8, 10], [6, 8, 9, 10, 11], [1, 6, 9, 11, 12], [1, 12, 13], [9, 11, 13, 14], [14], [14, 16], [16], [16, 18], [16], [16, 18, 19, 20], [14, 16, 19, 20, 21], [14, 21, 22], [0, 1, 2, 3, 4, 5, 6, 7, 8, 9, 10, 11, 12, 13, 14, 15, 16, 17, 18, 19, 20, 21, 22, 23]] [[2, 3, 4, 5, 6, 7, 8, 9, 10, 11, 12, 13, 14, 15, 16, 17, 18, 19, 20, 21, 22, 23], [3, 4, 5, 6, 7, 8, 9, 10, 11, 12, 13, 14, 15, 16, 17, 18, 19, 20, 21, 22, 23], [8, 9, 10, 11, 12, 15, 16, 17, 18, 19, 20, 21, 22, 23], [2, 4, 6, 7, 8, 9, 10, 11, 12, 13, 14, 15, 16, 17, 18, 19, 20, 21, 22, 23], [2, 3, 6, 7, 8, 9, 10, 11, 12, 13, 14, 15, 16, 17, 18, 19, 20, 21, 22, 23], [2, 8, 9, 10, 11, 12, 13, 14, 15, 16, 17, 18, 19, 20, 21, 22, 23], [2, 8, 9, 10, 11, 12, 13, 14, 15, 16, 17, 18, 19, 20, 21, 22, 23], [2, 14, 15, 16, 17, 18, 19, 20, 21, 22, 23], [0, 2, 7, 10, 11, 12, 13, 14, 15, 16, 17, 18, 19, 20, 21, 22, 23], [0, 2, 7, 10, 13, 14, 15, 16, 17, 18, 19, 20, 21, 22, 23], [0, 2, 7, 8, 9, 12, 13, 14, 15, 16, 17, 18, 19, 20, 21, 22, 23], [0, 2, 7, 9, 13, 14, 15, 16, 17, 18, 19, 20, 21, 22, 23], [0, 2, 7, 14, 16, 17, 18, 19, 20, 21, 22, 23], [2, 7, 15, 16, 17, 18, 19, 20, 21, 22, 23], [2, 3, 4, 5, 7, 8, 10, 16, 17, 18, 19, 20, 21, 22, 23], [0, 2, 3, 4, 5, 7, 18, 19, 20, 21], [0, 1, 2, 3, 4, 5, 6, 7, 8, 10, 12, 15, 18, 19, 20, 21, 22, 23], [0, 1, 2, 3, 4, 5, 6, 7, 8, 10, 12, 15, 23], [0, 1, 2, 3, 4, 5, 6, 7, 8, 9, 10, 11, 12, 13, 15, 17, 20, 21, 22, 23], [0, 1, 2, 3, 4, 5, 6, 7, 8, 9, 10, 11, 12, 13, 15, 17, 20, 22, 23], [0, 1, 2, 3, 4, 5, 6, 7, 8, 9, 10, 11, 12, 13, 15, 17, 18, 19, 22, 23], [0, 1, 2, 3, 4, 5, 6, 7, 8, 9, 10, 11, 12, 13, 15, 17, 23], [0, 1, 2, 3, 4, 5, 6, 7, 8, 10, 12, 15, 17], [0, 1, 2, 3, 4, 5, 6, 7, 8, 10, 12, 15, 17, 18], []] [0, 1, 2, 3, 4, 5, 6, 7, 8, 9, 10, 11, 12, 13, 14, 15, 16, 17, 18, 19, 20, 21, 22, 23, 24] 25 (by kernel_rfl) (by kernel_rfl) (by kernel_rfl) (by kernel_rfl) ?rS (fun j h1 h2 => absurd (Nat.lt_of_lt_of_le h1 (Nat.le_trans (by decide) h2)) (Nat.lt_irrefl _)) ?rT ?rE
     case rS => exact cs_start (HI9.out.later (below_drewN (Below.refl _ _) 1)) (HI9.out.later (below_drewN (Below.refl _ _) 1)).ebC
     case rT =>
      refine RelyStepsX.cons (RelyStepX.mk [] [2, 3, 4, 5, 6, 7, 8, 9, 10, 11, 12, 13, 14, 15, 16, 17, 18, 19, 20, 21, 22, 23] rfl rfl rfl (fun xv Lv wS hS hL hLd hV bq hb K hK => ?_)) ?_
      ·clear hV
       simp only [putsOf, List.foldl_cons, List.foldl_nil, List.getD_cons_zero, List.getD_cons_succ, List.getD_nil, cond_true, cond_false, Act.put, List.setIfInBounds_toArray, List.set_cons_zero, List.set_cons_succ] at hb
       subst hb
       rw [if_pos (by rfl)]
       go_wp2_with fail
       exact hK.out _ _ ⟨_, rfl, cs_op (i := 0) rfl hS, rfl, AllPX.same _⟩
      refine RelyStepsX.cons (RelyStepX.mk [0] [3, 4, 5, 6, 7, 8, 9, 10, 11, 12, 13, 14, 15, 16, 17, 18, 19, 20, 21, 22, 23] rfl rfl rfl (fun xv Lv wS hS hL hLd hV bq hb K hK => ?_)) ?_
      ·obtain ⟨h0, _⟩ := hV
       have h0 : xv 0 = _ := h0
       simp only [putsOf, List.foldl_cons, List.foldl_nil, List.getD_cons_zero, List.getD_cons_succ, List.getD_nil, cond_true, cond_false, Act.put, List.setIfInBounds_toArray, List.set_cons_zero, List.set_cons_succ, h0] at hb
       clear h0
       subst hb
       rw [if_pos (by rfl)]
       go_wp2_with fail
       exact hK.out _ _ ⟨_, rfl, cs_op (i := 1) rfl hS, rfl, AllPX.same _⟩
      refine RelyStepsX.cons (RelyStepX.mk [1] [8, 9, 10, 11, 12, 15, 16, 17, 18, 19, 20, 21, 22, 23] rfl rfl rfl (fun xv Lv wS hS hL hLd hV bq hb K hK => ?_)) ?_
      ·obtain ⟨h1, _⟩ := hV
       have h1 : xv 1 = _ := h1
       simp only [putsOf, List.foldl_cons, List.foldl_nil, List.getD_cons_zero, List.getD_cons_succ, List.getD_nil, cond_true, cond_false, Act.put, List.setIfInBounds_toArray, List.set_cons_zero, List.set_cons_succ, h1] at hb
       clear h1
       subst hb
       rw [if_pos (by rfl)]
       go_wp2_with fail
       exact hK.out _ _ ⟨_, rfl, cs_op (i := 2) rfl hS, rfl, AllPX.same _⟩
      refine RelyStepsX.cons (RelyStepX.mk [2] [2, 4, 6, 7, 8, 9, 10, 11, 12, 13, 14, 15, 16, 17, 18, 19, 20, 21, 22, 23] rfl rfl rfl (fun xv Lv wS hS hL hLd hV bq hb K hK => ?_)) ?_
      ·obtain ⟨h2, _⟩ := hV
       have h2 : xv 2 = _ := h2
       simp only [putsOf, List.foldl_cons, List.foldl_nil, List.getD_cons_zero, List.getD_cons_succ, List.getD_nil, cond_true, cond_false, Act.put, List.setIfInBounds_toArray, List.set_cons_zero, List.set_cons_succ, h2] at hb
       clear h2
       subst hb
       rw [if_pos (by rfl)]
       go_wp2_with fail
       exact hK.out _ _ ⟨_, rfl, cs_op (i := 3) rfl hS, rfl, AllPX.same _⟩
      refine RelyStepsX.cons (RelyStepX.mk [2] [2, 3, 6, 7, 8, 9, 10, 11, 12, 13, 14, 15, 16, 17, 18, 19, 20, 21, 22, 23] rfl rfl rfl (fun xv Lv wS hS hL hLd hV bq hb K hK => ?_)) ?_
      ·obtain ⟨h2, _⟩ := hV
       have h2 : xv 2 = _ := h2
       simp only [putsOf, List.foldl_cons, List.foldl_nil, List.getD_cons_zero, List.getD_cons_succ, List.getD_nil, cond_true, cond_false, Act.put, List.setIfInBounds_toArray, List.set_cons_zero, List.set_cons_succ, h2] at hb
       clear h2
       subst hb
       rw [if_pos (by rfl)]
       (have l5 := hS.2.1.2; have q0 := (l5.cell 0).trans (show _ = some (Value.int .i64 y.th) from rfl); have q1 := (l5.cell 1).trans (show _ = some (Value.int .i64 y.kd) from rfl); have q2 := (l5.cell 2).trans (show _ = some (Value.int .i64 y.rg) from rfl); have q3 := (l5.cell 3).trans (show _ = some (Value.int .u64 (y.tk : Int)) from rfl); have q4 := (l5.cell 4).trans (show _ = some (Value.int .u64 (y.vl : Int)) from rfl); have q5 := l5.lt; clear l5)
       go_wp2_with fail
       exact hK.out _ _ ⟨_, rfl, cs_op (i := 4) rfl hS, rfl, AllPX.same _⟩
      refine RelyStepsX.cons (RelyStepX.mk [3, 4, 2] [2, 8, 9, 10, 11, 12, 13, 14, 15, 16, 17, 18, 19, 20, 21, 22, 23] rfl rfl rfl (fun xv Lv wS hS hL hLd hV bq hb K hK => ?_)) ?_
      ·obtain ⟨h3, h4, h2, _⟩ := hV
       have h3 : xv 3 = _ := h3
       have h4 : xv 4 = _ := h4
       have h2 : xv 2 = _ := h2
       simp only [putsOf, List.foldl_cons, List.foldl_nil, List.getD_cons_zero, List.getD_cons_succ, List.getD_nil, cond_true, cond_false, Act.put, List.setIfInBounds_toArray, List.set_cons_zero, List.set_cons_succ, h3, h4, h2] at hb
       clear h3
       clear h4
       clear h2
       subst hb
       rw [if_pos (by rfl)]
       have hA := hS.1 hL
       have HFD := Lib.hid (fbFeedG HY.out (by omega) hA.tw.gf hA.tw.gg)
       rw [HD.out.1, HD.out.2] at HFD
       have HA := Lib.hid hA
       have HSS := Lib.hid hS
       clear hS hA
       go_wp2_with fail
       refine HFD.out.mono ?_
       rintro r w' hd
       obtain ⟨rfl, _, zq, hq⟩ := HA.out.second hd
       exact hK.out _ _ ⟨_, rfl, cs_call hq.ebC, ⟨rfl, zq, hq⟩, cs_keep HSS.out hL (by rfl)⟩
      refine RelyStepsX.cons (RelyStepX.mk [5, 2] [2, 8, 9, 10, 11, 12, 13, 14, 15, 16, 17, 18, 19, 20, 21, 22, 23] rfl rfl rfl (fun xv Lv wS hS hL hLd hV bq hb K hK => ?_)) ?_
      ·obtain ⟨h5, h2, _⟩ := hV
       have h2 : xv 2 = _ := h2
       simp only [putsOf, List.foldl_cons, List.foldl_nil, List.getD_cons_zero, List.getD_cons_succ, List.getD_nil, cond_true, cond_false, Act.put, List.setIfInBounds_toArray, List.set_cons_zero, List.set_cons_succ, h2] at hb
       generalize hy5 : xv 5 = y5 at *
       clear h2
       subst hb
       obtain ⟨rfl, zq, hq⟩ := h5
       rw [if_pos (by rfl)]
       have HBQ : Hid (∃ zq, RwAt w (pgC A c Q d p) (evC y) F G f7 f7 (l.length + 1) (l.length + 1) z8 zq wS) := ⟨zq, hq⟩
       clear hq
       go_wp2_with fail
       exact hK.out _ _ ⟨_, rfl, cs_opP (i := 6) (d := 5) rfl hS (hLd 5 (by decide +kernel)), ⟨rfl, HBQ.out⟩, AllPX.same _⟩
      refine RelyStepsX.cons (RelyStepX.mk [6, 2] [2, 14, 15, 16, 17, 18, 19, 20, 21, 22, 23] rfl rfl rfl (fun xv Lv wS hS hL hLd hV bq hb K hK => ?_)) ?_
      ·obtain ⟨h6, h2, _⟩ := hV
       have h2 : xv 2 = _ := h2
       simp only [putsOf, List.foldl_cons, List.foldl_nil, List.getD_cons_zero, List.getD_cons_succ, List.getD_nil, cond_true, cond_false, Act.put, List.setIfInBounds_toArray, List.set_cons_zero, List.set_cons_succ, h2] at hb
       generalize hy6 : xv 6 = y6 at *
       clear h2
       subst hb
       obtain ⟨rfl, zq, hq⟩ := h6
       rw [if_pos (by rfl)]
       have HBQ : Hid (∃ zq, RwAt w (pgC A c Q d p) (evC y) F G f7 f7 (l.length + 1) (l.length + 1) z8 zq wS) := ⟨zq, hq⟩
       clear hq
       go_wp2_with fail
       exact hK.out _ _ ⟨_, rfl, cs_opP (i := 7) (d := 6) rfl hS (hLd 6 (by decide +kernel)), ⟨rfl, HBQ.out⟩, AllPX.same _⟩
      refine RelyStepsX.cons (RelyStepX.mk [7] [0, 2, 7, 10, 11, 12, 13, 14, 15, 16, 17, 18, 19, 20, 21, 22, 23] rfl rfl rfl (fun xv Lv wS hS hL hLd hV bq hb K hK => ?_)) ?_
      ·obtain ⟨h7, _⟩ := hV
       simp only [putsOf, List.foldl_cons, List.foldl_nil, List.getD_cons_zero, List.getD_cons_succ, List.getD_nil, cond_true, cond_false, Act.put, List.setIfInBounds_toArray, List.set_cons_zero, List.set_cons_succ] at hb
       generalize hy7 : xv 7 = y7 at *
       subst hb
       obtain ⟨rfl, zq, hq⟩ := h7
       rw [if_pos (by rfl)]
       have HBQ : Hid (∃ zq, RwAt w (pgC A c Q d p) (evC y) F G f7 f7 (l.length + 1) (l.length + 1) z8 zq wS) := ⟨zq, hq⟩
       clear hq
       go_wp2_with fail
       exact hK.out _ _ ⟨_, rfl, cs_opP (i := 8) (d := 7) rfl hS (hLd 7 (by decide +kernel)), ⟨rfl, HBQ.out⟩, AllPX.same _⟩
      refine RelyStepsX.cons (RelyStepX.mk [8, 7] [0, 2, 7, 10, 13, 14, 15, 16, 17, 18, 19, 20, 21, 22, 23] rfl rfl rfl (fun xv Lv wS hS hL hLd hV bq hb K hK => ?_)) ?_
      ·obtain ⟨h8, h7, _⟩ := hV
       simp only [putsOf, List.foldl_cons, List.foldl_nil, List.getD_cons_zero, List.getD_cons_succ, List.getD_nil, cond_true, cond_false, Act.put, List.setIfInBounds_toArray, List.set_cons_zero, List.set_cons_succ] at hb
       generalize hy8 : xv 8 = y8 at *
       generalize hy7 : xv 7 = y7 at *
       subst hb
       obtain ⟨rfl, zq, hq⟩ := h8
       have h7 := h7.1
       subst h7
       rw [if_pos (by rfl)]
       have HST := Lib.hid (fbStV hq.tw.ff hq.tw.fg (by omega) HPP7.out.1 HPP7.out.2)
       have HSS := Lib.hid hS
       clear hS hq
       go_wp2_with fail
       refine HST.out.mono ?_
       rintro r w' ⟨v, rfl, hv, hb⟩
       exact hK.out _ _ ⟨_, rfl, cs_moreP (i := 9) (d := 8) rfl HSS.out (hLd 8 (by decide +kernel)) (fun h => h.later hb) (fun h => h.later hb), ⟨_, hv⟩, AllPX.of _ (fun j _ _ h => bfV_below hb h)⟩
      refine RelyStepsX.cons (RelyStepX.mk [7] [0, 2, 7, 8, 9, 12, 13, 14, 15, 16, 17, 18, 19, 20, 21, 22, 23] rfl rfl rfl (fun xv Lv wS hS hL hLd hV bq hb K hK => ?_)) ?_
      ·obtain ⟨h7, _⟩ := hV
       simp only [putsOf, List.foldl_cons, List.foldl_nil, List.getD_cons_zero, List.getD_cons_succ, List.getD_nil, cond_true, cond_false, Act.put, List.setIfInBounds_toArray, List.set_cons_zero, List.set_cons_succ] at hb
       generalize hy7 : xv 7 = y7 at *
       subst hb
       obtain ⟨rfl, zq, hq⟩ := h7
       rw [if_pos (by rfl)]
       have HBQ : Hid (∃ zq, RwAt w (pgC A c Q d p) (evC y) F G f7 f7 (l.length + 1) (l.length + 1) z8 zq wS) := ⟨zq, hq⟩
       clear hq
       go_wp2_with fail
       exact hK.out _ _ ⟨_, rfl, cs_opP (i := 10) (d := 7) rfl hS (hLd 7 (by decide +kernel)), ⟨rfl, HBQ.out⟩, AllPX.same _⟩
      refine RelyStepsX.cons (RelyStepX.mk [10, 7] [0, 2, 7, 9, 13, 14, 15, 16, 17, 18, 19, 20, 21, 22, 23] rfl rfl rfl (fun xv Lv wS hS hL hLd hV bq hb K hK => ?_)) ?_
      ·obtain ⟨h10, h7, _⟩ := hV
       simp only [putsOf, List.foldl_cons, List.foldl_nil, List.getD_cons_zero, List.getD_cons_succ, List.getD_nil, cond_true, cond_false, Act.put, List.setIfInBounds_toArray, List.set_cons_zero, List.set_cons_succ] at hb
       generalize hy10 : xv 10 = y10 at *
       generalize hy7 : xv 7 = y7 at *
       subst hb
       obtain ⟨rfl, zq, hq⟩ := h10
       have h7 := h7.1
       subst h7
       rw [if_pos (by rfl)]
       have HST := Lib.hid (fbStV hq.tw.gf hq.tw.gg (by omega) HPP7.out.1 HPP7.out.2)
       have HSS := Lib.hid hS
       clear hS hq
       go_wp2_with fail
       refine HST.out.mono ?_
       rintro r w' ⟨v, rfl, hv, hb⟩
       exact hK.out _ _ ⟨_, rfl, cs_moreP (i := 11) (d := 10) rfl HSS.out (hLd 10 (by decide +kernel)) (fun h => h.later hb) (fun h => h.later hb), ⟨_, hv⟩, AllPX.of _ (fun j _ _ h => bfV_below hb h)⟩
      refine RelyStepsX.cons (RelyStepX.mk [9, 11, 7] [0, 2, 7, 14, 16, 17, 18, 19, 20, 21, 22, 23] rfl rfl rfl (fun xv Lv wS hS hL hLd hV bq hb K hK => ?_)) ?_
      ·obtain ⟨h9, h11, h7, _⟩ := hV
       simp only [putsOf, List.foldl_cons, List.foldl_nil, List.getD_cons_zero, List.getD_cons_succ, List.getD_nil, cond_true, cond_false, Act.put, List.setIfInBounds_toArray, List.set_cons_zero, List.set_cons_succ] at hb
       generalize hy9 : xv 9 = y9 at *
       generalize hy11 : xv 11 = y11 at *
       generalize hy7 : xv 7 = y7 at *
       subst hb
       have h7 := h7.1
       subst h7
       rw [if_pos (by rfl)]
       obtain ⟨B1, s1⟩ := h9
       obtain ⟨B2, s2⟩ := h11
       have HSM := Lib.hid (stSameV s1 s2)
       have HSS := Lib.hid hS
       clear hS s1 s2
       go_wp2_with fail
       refine HSM.out.mono ?_
       rintro r w' ⟨rfl, hb⟩
       exact hK.out _ _ ⟨_, rfl, cs_more (i := 12) rfl HSS.out (fun h => h.later hb) (fun h => h.later hb), rfl, AllPX.of _ (fun j _ _ h => bfV_below hb h)⟩
      refine RelyStepsX.cons (RelyStepX.mk [7, 12, 2] [2, 7, 15, 16, 17, 18, 19, 20, 21, 22, 23] rfl rfl rfl (fun xv Lv wS hS hL hLd hV bq hb K hK => ?_)) ?_
      ·obtain ⟨h7, h12, h2, _⟩ := hV
       have h12 : xv 12 = _ := h12
       have h2 : xv 2 = _ := h2
       simp only [putsOf, List.foldl_cons, List.foldl_nil, List.getD_cons_zero, List.getD_cons_succ, List.getD_nil, cond_true, cond_false, Act.put, List.setIfInBounds_toArray, List.set_cons_zero, List.set_cons_succ, h12, h2] at hb
       generalize hy7 : xv 7 = y7 at *
       clear h12
       clear h2
       subst hb
       rw [if_pos (by rfl)]
       (have h7 := h7.1; subst h7)
       go_wp2_with fail
       exact hK.out _ _ ⟨_, rfl, cs_op (i := 13) rfl hS, rfl, AllPX.same _⟩
      refine RelyStepsX.cons (RelyStepX.mk [2, 13] [2, 3, 4, 5, 7, 8, 10, 16, 17, 18, 19, 20, 21, 22, 23] rfl rfl rfl (fun xv Lv wS hS hL hLd hV bq hb K hK => ?_)) ?_
      ·obtain ⟨h2, h13, _⟩ := hV
       have h2 : xv 2 = _ := h2
       have h13 : xv 13 = _ := h13
       simp only [putsOf, List.foldl_cons, List.foldl_nil, List.getD_cons_zero, List.getD_cons_succ, List.getD_nil, cond_true, cond_false, Act.put, List.setIfInBounds_toArray, List.set_cons_zero, List.set_cons_succ, h2, h13] at hb
       clear h2
       clear h13
       subst hb
       rw [if_pos (by rfl)]
       go_wp2_with fail
       exact hK.out _ _ ⟨_, rfl, cs_op (i := 14) rfl hS, rfl, AllPX.same _⟩
      refine RelyStepsX.cons (RelyStepX.mk [14] [0, 2, 3, 4, 5, 7, 18, 19, 20, 21] rfl rfl rfl (fun xv Lv wS hS hL hLd hV bq hb K hK => ?_)) ?_
      ·obtain ⟨h14, _⟩ := hV
       have h14 : xv 14 = _ := h14
       simp only [putsOf, List.foldl_cons, List.foldl_nil, List.getD_cons_zero, List.getD_cons_succ, List.getD_nil, cond_true, cond_false, Act.put, List.setIfInBounds_toArray, List.set_cons_zero, List.set_cons_succ, h14] at hb
       clear h14
       subst hb
       rw [if_pos (by rfl)]
       go_wp2_with fail
       exact hK.out _ _ ⟨_, rfl, cs_op (i := 15) rfl hS, rfl, AllPX.same _⟩
      refine RelyStepsX.cons (RelyStepX.mk [15] [0, 1, 2, 3, 4, 5, 6, 7, 8, 10, 12, 15, 18, 19, 20, 21, 22, 23] rfl rfl rfl (fun xv Lv wS hS hL hLd hV bq hb K hK => ?_)) ?_
      ·obtain ⟨h15, _⟩ := hV
       have h15 : xv 15 = _ := h15
       simp only [putsOf, List.foldl_cons, List.foldl_nil, List.getD_cons_zero, List.getD_cons_succ, List.getD_nil, cond_true, cond_false, Act.put, List.setIfInBounds_toArray, List.set_cons_zero, List.set_cons_succ, h15] at hb
       clear h15
       subst hb
       rw [if_pos (by rfl)]
       go_wp2_with fail
       exact hK.out _ _ ⟨_, rfl, cs_op (i := 16) rfl hS, rfl, AllPX.same _⟩
      refine RelyStepsX.cons (RelyStepX.mk [16, 15] [0, 1, 2, 3, 4, 5, 6, 7, 8, 10, 12, 15, 23] rfl rfl rfl (fun xv Lv wS hS hL hLd hV bq hb K hK => ?_)) ?_
      ·obtain ⟨h16, h15, _⟩ := hV
       have h16 : xv 16 = _ := h16
       have h15 : xv 15 = _ := h15
       simp only [putsOf, List.foldl_cons, List.foldl_nil, List.getD_cons_zero, List.getD_cons_succ, List.getD_nil, cond_true, cond_false, Act.put, List.setIfInBounds_toArray, List.set_cons_zero, List.set_cons_succ, h16, h15] at hb
       clear h16
       clear h15
       subst hb
       rw [if_pos (by rfl)]
       go_wp2_with fail
       exact hK.out _ _ ⟨_, rfl, cs_op (i := 17) rfl hS, rfl, AllPX.same _⟩
      refine RelyStepsX.cons (RelyStepX.mk [17] [0, 1, 2, 3, 4, 5, 6, 7, 8, 9, 10, 11, 12, 13, 15, 17, 20, 21, 22, 23] rfl rfl rfl (fun xv Lv wS hS hL hLd hV bq hb K hK => ?_)) ?_
      ·obtain ⟨h17, _⟩ := hV
       have h17 : xv 17 = _ := h17
       simp only [putsOf, List.foldl_cons, List.foldl_nil, List.getD_cons_zero, List.getD_cons_succ, List.getD_nil, cond_true, cond_false, Act.put, List.setIfInBounds_toArray, List.set_cons_zero, List.set_cons_succ, h17] at hb
       clear h17
       subst hb
       refine not_wanted (by rfl) ?_
       exact hK.out _ _ ⟨undef, rfl, cs_op (i := 18) rfl hS, rfl, AllPX.same _⟩
      refine RelyStepsX.cons (RelyStepX.mk [18, 17] [0, 1, 2, 3, 4, 5, 6, 7, 8, 9, 10, 11, 12, 13, 15, 17, 20, 22, 23] rfl rfl rfl (fun xv Lv wS hS hL hLd hV bq hb K hK => ?_)) ?_
      ·obtain ⟨h18, h17, _⟩ := hV
       have h18 : xv 18 = _ := h18
       have h17 : xv 17 = _ := h17
       simp only [putsOf, List.foldl_cons, List.foldl_nil, List.getD_cons_zero, List.getD_cons_succ, List.getD_nil, cond_true, cond_false, Act.put, List.setIfInBounds_toArray, List.set_cons_zero, List.set_cons_succ, h18, h17] at hb
       clear h18
       clear h17
       subst hb
       refine not_wanted (by rfl) ?_
       exact hK.out _ _ ⟨undef, rfl, cs_op (i := 19) rfl hS, rfl, AllPX.same _⟩
      refine RelyStepsX.cons (RelyStepX.mk [17] [0, 1, 2, 3, 4, 5, 6, 7, 8, 9, 10, 11, 12, 13, 15, 17, 18, 19, 22, 23] rfl rfl rfl (fun xv Lv wS hS hL hLd hV bq hb K hK => ?_)) ?_
      ·obtain ⟨h17, _⟩ := hV
       have h17 : xv 17 = _ := h17
       simp only [putsOf, List.foldl_cons, List.foldl_nil, List.getD_cons_zero, List.getD_cons_succ, List.getD_nil, cond_true, cond_false, Act.put, List.setIfInBounds_toArray, List.set_cons_zero, List.set_cons_succ, h17] at hb
       clear h17
       subst hb
       refine not_wanted (by rfl) ?_
       exact hK.out _ _ ⟨undef, rfl, cs_op (i := 20) rfl hS, rfl, AllPX.same _⟩
      refine RelyStepsX.cons (RelyStepX.mk [19, 20, 17] [0, 1, 2, 3, 4, 5, 6, 7, 8, 9, 10, 11, 12, 13, 15, 17, 23] rfl rfl rfl (fun xv Lv wS hS hL hLd hV bq hb K hK => ?_)) ?_
      ·obtain ⟨h19, h20, h17, _⟩ := hV
       have h19 : xv 19 = _ := h19
       have h20 : xv 20 = _ := h20
       have h17 : xv 17 = _ := h17
       simp only [putsOf, List.foldl_cons, List.foldl_nil, List.getD_cons_zero, List.getD_cons_succ, List.getD_nil, cond_true, cond_false, Act.put, List.setIfInBounds_toArray, List.set_cons_zero, List.set_cons_succ, h19, h20, h17] at hb
       clear h19
       clear h20
       clear h17
       subst hb
       refine not_wanted (by rfl) ?_
       exact hK.out _ _ ⟨undef, rfl, cs_op (i := 21) rfl hS, rfl, AllPX.same _⟩
      refine RelyStepsX.cons (RelyStepX.mk [17, 21, 15] [0, 1, 2, 3, 4, 5, 6, 7, 8, 10, 12, 15, 17] rfl rfl rfl (fun xv Lv wS hS hL hLd hV bq hb K hK => ?_)) ?_
      ·obtain ⟨h17, h21, h15, _⟩ := hV
       have h17 : xv 17 = _ := h17
       have h21 : xv 21 = _ := h21
       have h15 : xv 15 = _ := h15
       simp only [putsOf, List.foldl_cons, List.foldl_nil, List.getD_cons_zero, List.getD_cons_succ, List.getD_nil, cond_true, cond_false, Act.put, List.setIfInBounds_toArray, List.set_cons_zero, List.set_cons_succ, h17, h21, h15] at hb
       clear h17
       clear h21
       clear h15
       subst hb
       rw [if_pos (by rfl)]
       go_wp2_with fail
       exact hK.out _ _ ⟨_, rfl, cs_op (i := 22) rfl hS, rfl, AllPX.same _⟩
      refine RelyStepsX.cons (RelyStepX.mk [15, 22] [0, 1, 2, 3, 4, 5, 6, 7, 8, 10, 12, 15, 17, 18] rfl rfl rfl (fun xv Lv wS hS hL hLd hV bq hb K hK => ?_)) ?_
      ·obtain ⟨h15, h22, _⟩ := hV
       have h15 : xv 15 = _ := h15
       have h22 : xv 22 = _ := h22
       simp only [putsOf, List.foldl_cons, List.foldl_nil, List.getD_cons_zero, List.getD_cons_succ, List.getD_nil, cond_true, cond_false, Act.put, List.setIfInBounds_toArray, List.set_cons_zero, List.set_cons_succ, h15, h22] at hb
       clear h15
       clear h22
       subst hb
       rw [if_pos (by rfl)]
       go_wp2_with fail
       exact hK.out _ _ ⟨_, rfl, cs_op (i := 23) rfl hS, rfl, AllPX.same _⟩
      refine RelyStepsX.cons (RelyStepX.mk [23] [] rfl rfl rfl (fun xv Lv wS hS hL hLd hV bq hb K hK => ?_)) ?_
      ·obtain ⟨h23, _⟩ := hV
       have h23 : xv 23 = _ := h23
       simp only [putsOf, List.foldl_cons, List.foldl_nil, List.getD_cons_zero, List.getD_cons_succ, List.getD_nil, cond_true, cond_false, Act.put, List.setIfInBounds_toArray, List.set_cons_zero, List.set_cons_succ, h23] at hb
       clear h23
       subst hb
       rw [if_pos (by rfl)]
       go_wp2_with fail
       exact hK.out _ _ ⟨_, rfl, cs_op (i := 24) rfl hS, rfl, AllPX.same _⟩
      exact RelyStepsX.nil
     case rE =>
     intro xv Lv wE hS hLall hV
     have h24 := hV 24 (by decide) (by decide)
     clear hV
     simp only [putsOf, List.foldl_cons, List.foldl_nil, List.getD_cons_zero, List.getD_cons_succ, List.getD_nil, cond_true, cond_false, Act.put, List.setIfInBounds_toArray, List.set_cons_zero, List.set_cons_succ]
     have h24 : xv 24 = _ := h24
     rw [h24]; clear h24
     generalize xv 0 = y0 at *
     generalize xv 1 = y1 at *
     generalize xv 2 = y2 at *
     generalize xv 3 = y3 at *
     generalize xv 4 = y4 at *
     generalize xv 5 = y5 at *
     generalize xv 6 = y6 at *
     generalize xv 7 = y7 at *
     generalize xv 8 = y8 at *
     generalize xv 9 = y9 at *
     generalize xv 10 = y10 at *
     generalize xv 11 = y11 at *
     generalize xv 12 = y12 at *
     generalize xv 13 = y13 at *
     generalize xv 14 = y14 at *
     generalize xv 15 = y15 at *
     generalize xv 16 = y16 at *
     generalize xv 17 = y17 at *
     generalize xv 18 = y18 at *
     generalize xv 19 = y19 at *
     generalize xv 20 = y20 at *
     generalize xv 21 = y21 at *
     generalize xv 22 = y22 at *
     generalize xv 23 = y23 at *
     have HB9 := Lib.hid hS.2.1.1
     clear hS hLall HI9
     go_wp2_with fail
     go_ret
     exact ⟨rfl, HB9.out⟩
end Go.Proofs.YtdffpbfebgcmaaaGreat
