import Derived.WalkKit
import Derived.ProofKit
import Derived.Lib.Hide
import Derived.Lib.AppendStr
import Derived.Lib.SlBytesRow
import Derived.Laws.AppendOwnNone
import Derived.Deep.AppendLies
import Derived.Deep.Draws
import Derived.BigQuiet
import Derived.Deep.QuietTactic
import Derived.Deep.RegionWith
import Derived.OpenShut
import Derived.Outline
import Derived.Deep.Slices
import Derived.ChangeSame
import Derived.Laws.IdiomStrings
import Derived.SliceStrings
import Derived.Laws.DeepStrings4
import Derived.SizedLaws
import Derived.Laws.OwnMore
import Derived.Test.YtdffpbfebgcmaaaGreatRows
import Derived.Deep.OwnRows
import Derived.Laws.StructEq
import Derived.RegionTactic
import Derived.Laws.Bits64
import Derived.Laws.Bits64b
import Derived.Deep.DeepCutAuto
import Derived.IntWalk
import Derived.Deep.RegionHeld
import Derived.Lib.SliceRun
import Derived.Deep.RegionLaw
import Derived.StillTailTactics
import Derived.Deep.MidRow
import Derived.Great.BuildSlice
import Derived.ChangeKeysEq
import Derived.ShutString
import Derived.ChangeOld
import Derived.Below
import Derived.Test.YtdffpbfebgcmaaaGreatZy6
namespace Go.Proofs.YtdffpbfebgcmaaaGreat
open Go.RowKit
set_option linter.unusedVariables false
set_option linter.unusedSimpArgs false
theorem slice_sized {H : Type} {enc : TypeId × Value → H} {P : Program} {W : World} {ts : List TypeId} {ds : List (DataW H)} (h : (DataW.weightsEach P ts ds).all (· ≤ reachBytes) = true)
  {j : Nat} {t e : TypeId} {a : Option Addr} {len cap : Nat} {d : DataW H} {p : List MemPlace} (ht : ts[j]? = some t) (hd : ds[j]? = some d) (hu : P.underlying t = some (.slice e))
  (k : DataW.Trod enc P W 0 (fun _ => true) true t (.slice a len cap) d p) : cap * P.bytesOf e ≤ reachBytes := by
 obtain ⟨fuel, hf⟩ := k
 rcases Deep.open_slice hu hf with ⟨hcs, _⟩ | ⟨x, l, c, m, n, D, Pl, hcs, _, hl, hm, hmm, hx, _⟩
 ·simp [Value.cells] at hcs
  obtain ⟨rfl, rfl, rfl⟩ := hcs
  simp
 ·simp [Value.cells] at hcs
  obtain ⟨rfl, rfl, rfl⟩ := hcs
  simp at hmm
  subst hmm
  simp only [Prod.mk.injEq] at hx
  rw [hx.1] at hd
  have := sized_slice h ht hd hu
  simpa [Nat.add_sub_cancel' hl] using this
theorem slotHeld : Tryz.prog.stoodInHeld 90 = false := by kernel_rfl
theorem slotGuard : Tryz.prog.eqGuardType Tryz.prog.depth 90 = false := by kernel_rfl
theorem slotNeq (x y : Sl) (w : World) : (binOp .neq 90 (.agg #[.int .u64 (x.s : Int), .int .u64 (x.v : Int), .int .i64 x.l]) (.agg #[.int .u64 (y.s : Int), .int .u64 (y.v : Int), .int .i64 y.l])).run Tryz.prog w = .ok (.bool (!(decide (x = y)))) w := by
 have h1 := slotHeld
 rw [run_neq_struct, run_equalIn_agg w 9999 _ _ _ (by simp only [Program.fieldsOf, Tryz.underlying90]) h1]
 simp only [Program.fieldsOf, Tryz.underlying90]
 obtain ⟨a, b, c⟩ := x
 obtain ⟨a', b', c'⟩ := y
 simp [go_sem]
 by_cases e1 : a = a'
 ·by_cases e2 : b = b'
  ·by_cases e3 : c = c' <;> simp [e1, e2, e3]
  ·simp [e1, e2]; try omega
 ·simp [e1]; try omega
set_option maxHeartbeats 1000000 in
set_option maxRecDepth 100000 in
theorem ref12Same (v1 v2 : Value) (L M : List Sl) (n1 n2 : Nat) (w : World) (h1 : SeqS w 3 v1 n1 (rowsOf slF L)) (h2 : SeqS w 3 v2 n2 (rowsOf slF M)) :
  Calls Tryz.prog 70 #[v1, v2] w fun e w' => e = .returned (.bool (decide (L = M))) ∧ ∃ n, w' = w.drewN n := by
 have hl1 := h1.len_ slF_length (by decide)
 have hl2 := h2.len_ slF_length (by decide)
 obtain ⟨A1, c1, rfl, q1, q2, _⟩ := h1.form
 obtain ⟨A2, c2, rfl, q3, q4, _⟩ := h2.form
 subst hl1 hl2
 unfold maxLen at q2 q4
 by_cases hne : L.length = M.length
 ·have e0 : (L.length == M.length) = true := by rw [beq_iff_eq]; exact hne
  have H1 := Lib.hid h1
  have H2 := Lib.hid h2
  have hnei : (L.length : Int) = (M.length : Int) := by omega
  clear h1 h2
  go_enter Tryz.func70, Tryz.ntmps70
  go_wp2
  go_loopw [5] (fun u wr => ∃ k : Nat, k ≤ L.length ∧ u = .int .i64 k ∧ L.take k = M.take k ∧ ∃ n, wr = w.drewN n) (fun u _ => L.length - (intOf u).toNat)
  case atStart => exact ⟨0, by omega, rfl, rfl, 0, rfl⟩
  case round =>
   obtain ⟨k, hk, rfl, htk, nd, rfl⟩ := hrel
   by_cases hlt : k < L.length
   ·have hd : decide (k < L.length) = true := by simpa using hlt
    have hd2 : (k : Int) < (M.length : Int) := by omega
    have hd3 : (k : Int) < (L.length : Int) := by omega
    obtain ⟨x, hx⟩ : ∃ x, L[k]? = some x := ⟨_, List.getElem?_eq_getElem hlt⟩
    obtain ⟨y, hy⟩ : ∃ y, M[k]? = some y := ⟨_, List.getElem?_eq_getElem (by omega)⟩
    obtain ⟨b1, o1, rfl, _, g1⟩ := SeqS.at_ slF_length (by decide) H1.out hx
    obtain ⟨b2, o2, rfl, _, g2⟩ := SeqS.at_ slF_length (by decide) H2.out hy
    have c0 := g1 0 _ (by decide) rfl
    have c1 := g1 1 _ (by decide) rfl
    have c2 := g1 2 _ (by decide) rfl
    have d0 := g2 0 _ (by decide) rfl
    have d1 := g2 1 _ (by decide) rfl
    have d2 := g2 2 _ (by decide) rfl
    rw [Nat.add_zero] at c0 d0
    have HX := Lib.hid hx
    have HY := Lib.hid hy
    have HT := Lib.hid htk
    clear g1 g2 hx hy htk
    have hg := slotGuard
    have hq := slotNeq x y
    have HTK := fun (e : x = y) => Lib.hid (show L.take (k + 1) = M.take (k + 1) by rw [List.take_add_one, List.take_add_one, HT.out, HX.out, HY.out, e])
    have HNE := fun (e : ¬ x = y) => Lib.hid (show decide (L = M) = false by
     rw [decide_eq_false_iff_not]; intro e2
     have h1 := HX.out
     rw [e2, HY.out] at h1
     exact e (Option.some.inj h1).symm)
    by_cases hxy : x = y
    ·have HTK2 := HTK hxy
     rw [decide_eq_true hxy] at hq
     clear HTK HNE hxy
     go_wp2
     go_quiet (fail)
     go_wp2
     go_roundw
     case rel => exact ⟨k + 1, by omega, by go_num, HTK2.out, _, rfl⟩
     case measure => simp [intOf]; omega
    ·have HNE2 := HNE hxy
     rw [decide_eq_false hxy] at hq
     clear HTK HNE hxy
     go_wp2
     go_quiet (fail)
     go_wp2
     go_ret
     exact ⟨ret_bool (by rw [HNE2.out]), _, by rw [World.drewN_drewN]⟩
   ·obtain rfl : k = L.length := by omega
    have hd : decide (L.length < L.length) = false := by simp
    rw [List.take_of_length_le (Nat.le_refl _), List.take_of_length_le (by omega)] at htk
    have HE := Lib.hid (show decide (L = M) = true from decide_eq_true htk)
    clear htk
    go_wp2
    go_ret
    exact ⟨ret_bool (by rw [HE.out]), _, rfl⟩
 ·have e0 : (L.length == M.length) = false := by rw [beq_eq_false_iff_ne]; exact hne
  have HE := Lib.hid (show decide (L = M) = false by rw [decide_eq_false_iff_not]; exact fun e => hne (by rw [e]))
  clear h1 h2 hne
  go_enter Tryz.func70, Tryz.ntmps70
  go_wp2
  go_ret
  exact ⟨ret_bool (by rw [HE.out]), 0, rfl⟩
theorem phB_2 {l : List In} {x : Th} (h : phB l x = true) (h1 : x.ph = 2) : hdB l x 19 = true := by
 unfold phB at h; rw [if_neg (by omega), if_neg (by omega), if_pos h1] at h; exact h
section
variable {w : World} {g o : Nat} {T : TypeId} {p0 post : List Value} {R : Rg}
theorem rgClose (h : RgAt w g T p0 post R) (ho : p0.length = o) :
  Calls Tryz.prog 26 #[.pointer (some ⟨g, o, none⟩)] w fun e w' => e = .returned (.int .i64 0) ∧ RgAt w' g T p0 post { R with cl := true } ∧ Kept (oneRow g) w w' := by
 subst ho
 obtain ⟨c0, c1, c2, c3⟩ := h.cells
 have f3 := h.free (p0.length + 11)
 have h8 := h.1.1
 have HPUT := Lib.hid (h.put (R' := { R with cl := true }) (k := 11) (u := .bool true) (by decide) h.1 rfl rfl (by
  unfold cuR cuF
  rw [List.set_append_right _ _ (by simp [h8])]
  simp [h8]))
 clear h h8
 go_enter Tryz.func26, Tryz.ntmps26
 go_wp2
 go_ret
 exact ⟨rfl, HPUT.out, Kept.put _ _ _ _⟩
end
structure TwAt (B F G : Nat) (f g : Fb) (k j : Nat) (zf zg : Fv) (q : World) : Prop where
 ff : FabAt q B F f zf
 fg : FbGood f k
 gf : FabAt q B G g zg
 gg : FbGood g j
 apart : ∀ r, FpOf F zf r → ¬ FpOf G zg r
section
variable {B F G k j : Nat} {f g f' g' : Fb} {zf zg : Fv} {q q' : World} {e : Ev} {E : Int} {r : Ending}
theorem FabAt.keptA {S : Nat → Prop} (h : FabAt q B F f zf) (kp : Kept S q q') (hS : ∀ r e cur, Lies q r e cur → S r → ¬ FpOf F zf r ∧ FbTy e) : FabAt q' B F f zf := by
 have ty : ∀ e, FbTy e → e ≠ 84 ∧ e ≠ 78 ∧ e ≠ 122 := fun e h => by
  rcases h with rfl | rfl | rfl | rfl | rfl <;> decide
 have no : ∀ {r e cur}, Lies q r e cur → FpOf F zf r → ¬ S r := fun hl hf hs => (hS _ _ _ hl hs).1 hf
 refine ⟨h.box.kept kp (no h.box (.inl rfl)), h.pg.kept kp (fun r e cur he hl hs => by have := ty e (hS r e cur hl hs).2; rcases he with rfl | rfl | rfl; exact this.1 rfl; exact this.2.1 rfl; exact this.2.2 rfl), owns_kept h.tr kp (fun r cur hr hl => no hl (.inr (.inl hr))), h.sr.kept kp (fun r a hr hl => no hl (.inr (.inr (.inl hr)))) (fun u r a hu hr hl => no hl (.inr (.inr (.inr (.inr ⟨u, hu, hr⟩))))), ?_, h.hB⟩
 obtain ⟨ms, e, h1⟩ := h.lr
 exact ⟨ms, e, h1.kept kp (fun r cur hr hl => no hl (.inr (.inr (.inr (.inl hr)))))⟩
theorem TwAt.later (h : TwAt B F G f g k j zf zg q) (hb : Below q.heap.size q q') : TwAt B F G f g k j zf zg q' := ⟨h.ff.later hb, h.fg, h.gf.later hb, h.gg, h.apart⟩
theorem TwAt.swap (h : TwAt B F G f g k j zf zg q) : TwAt B G F g f j k zg zf q := ⟨h.gf, h.gg, h.ff, h.fg, fun r h1 h2 => h.apart r h2 h1⟩
theorem TwAt.first (h : TwAt B F G f g k j zf zg q) (hp : DgPost q B F zf k E f' r q') : r = .returned (.int .i64 E) ∧ Below B q q' ∧ (∀ b T cs, Lies q b T cs → ¬ FbTy T → Lies q' b T cs) ∧ ∃ z', TwAt B F G f' g (k + 1) j z' zg q' := by
 obtain ⟨h1, z', h2, h3, h4, h5⟩ := hp
 have hB : B ≤ q.heap.size := Nat.le_trans h.ff.hB (Nat.le_of_lt h.ff.lt)
 refine ⟨h1, h4.below hB (fun r hr hs => by have := (fb_types h.ff hs).1; omega), fun b T cs hl hT => hl.kept h4 (fun hs => ?_), z', h2, h3, h.gf.keptA h4 (fun r e cur hl hs => ⟨h.apart r hs, ?_⟩), h.gg, fun r hr hg => ?_⟩
 ·obtain ⟨_, e2, c2, h6, h7⟩ := fb_types h.ff hs
  rw [(h6.same hl).1] at h7
  exact hT h7
 ·obtain ⟨_, e2, c2, h6, h7⟩ := fb_types h.ff hs
  rw [(h6.same hl).1] at h7
  exact h7
 ·rcases h5 r hr with h5 | h5
  ·exact h.apart r h5 hg
  ·obtain ⟨_, e2, c2, h6, _⟩ := fb_types h.gf hg
   have := h6.lt
   omega
end
def regB (x y : Nat → Nat) : Bool := (x 0 == y 0) && ((x 1 == y 1) && ((x 2 == y 2) && ((x 3 == y 3) && ((x 4 == y 4) && ((x 5 == y 5) && ((x 6 == y 6) && (x 7 == y 7)))))))
abbrev regC (x : Nat → Nat) : Array Value := #[.int .u64 (x 0 : Int), .int .u64 (x 1 : Int), .int .u64 (x 2 : Int), .int .u64 (x 3 : Int), .int .u64 (x 4 : Int), .int .u64 (x 5 : Int), .int .u64 (x 6 : Int), .int .u64 (x 7 : Int)]
theorem under8 : Tryz.prog.underlying 60 = some (.array 8 37) := by kernel_rfl
theorem cells1 : Tryz.prog.cellsOf 37 = 1 := by kernel_rfl
theorem intEqN (a b : Nat) : ((a : Int) == (b : Int)) = (a == b) := by rw [Bool.eq_iff_iff, beq_iff_eq, beq_iff_eq]; omega
set_option maxHeartbeats 2000000 in
theorem regsEql (x y : Nat → Nat) (w : World) : (binOp .eql 60 (.agg (regC x)) (.agg (regC y))).run Tryz.prog w = .ok (.bool (regB x y)) w := by
 obtain ⟨i0, hi, _, _, _⟩ := info_parts Tryz.info64
 rw [run_eql_struct, run_equalIn_array w 9999 _ _ under8 hi, cells1]
 rw [show List.range 8 = [0, 1, 2, 3, 4, 5, 6, 7] from rfl]
 have hp : ∀ (l : Array Value) (k : Nat) (a : Int) (q : World), l[k]? = some (.int .u64 a) → (part 37 l (k * 1)).run Tryz.prog q = .ok (.int .u64 a) q := by
  intro l k a q h
  have hu : Tryz.prog.underlying 37 = some (.int .u64) := by kernel_rfl
  simp [part, isAgg, run_underlying hu, h]
 have hu : Tryz.prog.underlying 37 = some (.int .u64) := by kernel_rfl
 have a0 := fun q => hp (regC x) 0 (x 0) q rfl
 have a1 := fun q => hp (regC x) 1 (x 1) q rfl
 have a2 := fun q => hp (regC x) 2 (x 2) q rfl
 have a3 := fun q => hp (regC x) 3 (x 3) q rfl
 have a4 := fun q => hp (regC x) 4 (x 4) q rfl
 have a5 := fun q => hp (regC x) 5 (x 5) q rfl
 have a6 := fun q => hp (regC x) 6 (x 6) q rfl
 have a7 := fun q => hp (regC x) 7 (x 7) q rfl
 have b0 := fun q => hp (regC y) 0 (y 0) q rfl
 have b1 := fun q => hp (regC y) 1 (y 1) q rfl
 have b2 := fun q => hp (regC y) 2 (y 2) q rfl
 have b3 := fun q => hp (regC y) 3 (y 3) q rfl
 have b4 := fun q => hp (regC y) 4 (y 4) q rfl
 have b5 := fun q => hp (regC y) 5 (y 5) q rfl
 have b6 := fun q => hp (regC y) 6 (y 6) q rfl
 have b7 := fun q => hp (regC y) 7 (y 7) q rfl
 have he : ∀ (a b : Nat) (q : World), (Op.equalIn 9999 37 (.int .u64 (a : Int)) (.int .u64 (b : Int))).run Tryz.prog q = .ok (a == b) q := fun a b q => by
  rw [run_equalIn_int q 9998 37 .u64 .u64 _ _ hu, intEqN]
 generalize regC x = X at *
 generalize regC y = Y at *
 simp only [Op.eqItems, Sem.run_bind, a0, a1, a2, a3, a4, a5, a6, a7, b0, b1, b2, b3, b4, b5, b6, b7, he, Result.andThen_ok, Sem.run_ite, Sem.run_pure]
 unfold regB
 cases (x 0 == y 0) <;> try rfl
 cases (x 1 == y 1) <;> try rfl
 cases (x 2 == y 2) <;> try rfl
 cases (x 3 == y 3) <;> try rfl
 cases (x 4 == y 4) <;> try rfl
 cases (x 5 == y 5) <;> try rfl
 cases (x 6 == y 6) <;> try rfl
 cases (x 7 == y 7) <;> rfl
def samT (x y : Th) : Bool := (x.at_ == y.at_) && ((x.ph == y.ph) && ((x.rg == y.rg) && ((x.st == y.st) && ((x.tk == y.tk) && (regB x.r y.r && decide (x.sn = y.sn))))))
set_option maxHeartbeats 4000000 in
set_option maxRecDepth 100000 in
theorem rfThSame (x y : Th) (A : Option Addr) (c : Nat) (B : Option Addr) (d : Nat) (w : World) (h : SeqAt w (.slice A x.sn.length c) (cells64 x.sn)) (k : SeqAt w (.slice B y.sn.length d) (cells64 y.sn)) :
  Calls Tryz.prog 54 #[.agg (thC x (.slice A x.sn.length c)), .agg (thC y (.slice B y.sn.length d))] w fun e w' => e = .returned (.bool (samT x y)) ∧ Below w.heap.size w w' := by
 have hb := (((Below.refl w.heap.size w).alloc (Nat.le_refl _) (.cells (thC x (.slice A x.sn.length c)) 73))).alloc (by simp) (.cells (thC y (.slice B y.sn.length d)) 73)
 have HB := Lib.hid hb
 have HCA := Lib.hid (fun q (hq : Below w.heap.size w q) => refSameNat _ _ x.sn y.sn q (SeqAt.later_ h hq) (SeqAt.later_ k hq))
 have HD : Hid (samT x y = ((x.at_ == y.at_) && ((x.ph == y.ph) && ((x.rg == y.rg) && ((x.st == y.st) && ((x.tk == y.tk) && (regB x.r y.r && decide (x.sn = y.sn)))))))) := rfl
 have hge : Tryz.prog.eqGuardType Tryz.prog.depth 60 = false := by kernel_rfl
 have hre := fun q => regsEql x.r y.r q
 dsimp only [regC] at hre
 clear hb h k
 obtain ⟨b1, hb1⟩ : ∃ b, (x.at_ == y.at_) = b := ⟨_, rfl⟩
 obtain ⟨b2, hb2⟩ : ∃ b, (x.ph == y.ph) = b := ⟨_, rfl⟩
 obtain ⟨b3, hb3⟩ : ∃ b, (x.rg == y.rg) = b := ⟨_, rfl⟩
 obtain ⟨b4, hb4⟩ : ∃ b, (x.st == y.st) = b := ⟨_, rfl⟩
 obtain ⟨b5, hb5⟩ : ∃ b, (x.tk == y.tk) = b := ⟨_, rfl⟩
 obtain ⟨b6, hb6⟩ : ∃ b, regB x.r y.r = b := ⟨_, rfl⟩
 have ib5 : ((x.tk : Int) == (y.tk : Int)) = b5 := by rw [← hb5, intEqN]
 rw [hb1, hb2, hb3, hb4, hb5, hb6] at HD
 rw [hb6] at hre
 clear hb6
 have hc : (b1 = false) ∨ (b1 = true ∧ b2 = false) ∨ (b1 = true ∧ b2 = true ∧ b3 = false) ∨ (b1 = true ∧ b2 = true ∧ b3 = true ∧ b4 = false) ∨ (b1 = true ∧ b2 = true ∧ b3 = true ∧ b4 = true ∧ b5 = false) ∨ (b1 = true ∧ b2 = true ∧ b3 = true ∧ b4 = true ∧ b5 = true ∧ b6 = false) ∨ (b1 = true ∧ b2 = true ∧ b3 = true ∧ b4 = true ∧ b5 = true ∧ b6 = true) := by
  cases b1 <;> cases b2 <;> cases b3 <;> cases b4 <;> cases b5 <;> cases b6 <;> simp
 rcases hc with rfl | ⟨rfl, rfl⟩ | ⟨rfl, rfl, rfl⟩ | ⟨rfl, rfl, rfl, rfl⟩ | ⟨rfl, rfl, rfl, rfl, rfl⟩ | ⟨rfl, rfl, rfl, rfl, rfl, rfl⟩ | ⟨rfl, rfl, rfl, rfl, rfl, rfl⟩
 all_goals
  have HE := HD.out
  simp only [Bool.true_and, Bool.false_and] at HE
  have HE2 := Lib.hid HE
  clear HE HD
  go_enter Tryz.func54, Tryz.ntmps54
  first
   | (go_wp2
      go_ret
      exact ⟨ret_bool HE2.out.symm, HB.out⟩)
   | (go_wp2_with fail
      refine (HCA.out _ HB.out).mono ?_
      rintro e w' ⟨rfl, n, rfl⟩
      go_wp2
      go_ret
      exact ⟨ret_bool HE2.out.symm, below_drewN HB.out n⟩)
set_option maxHeartbeats 2000000 in
set_option maxRecDepth 100000 in
theorem ref13Same (t : Nat) (hs : List Nat) (cl : Bool) (L : List Sl) (A1 A2 A3 A4 : Option Addr) (c1 c2 c3 c4 : Nat) (w : World) (h1 : SeqAt w (.slice A1 hs.length c1) (cellsH hs)) (h2 : SeqAt w (.slice A2 hs.length c2) (cellsH hs))
  (s1 : SeqS w 3 (.slice A3 L.length c3) L.length (rowsOf slF L)) (s2 : SeqS w 3 (.slice A4 L.length c4) L.length (rowsOf slF L)) :
  Calls Tryz.prog 43 #[.agg #[.int .u64 (t : Int), .slice A1 hs.length c1, .bool cl, .slice A3 L.length c3], .agg #[.int .u64 (t : Int), .slice A2 hs.length c2, .bool cl, .slice A4 L.length c4]] w fun e w' => e = .returned (.bool true) ∧ Below w.heap.size w w' := by
 have hb0 := (Below.refl w.heap.size w).alloc (Nat.le_refl _) (.cells #[.int .u64 (t : Int), .slice A1 hs.length c1, .bool cl, .slice A3 L.length c3] 76)
 have hb1 := hb0.alloc (by simp) (.cells #[.int .u64 (t : Int), .slice A2 hs.length c2, .bool cl, .slice A4 L.length c4] 76)
 have l0 := (Lies.made w 76 #[.int .u64 (t : Int), .slice A1 hs.length c1, .bool cl, .slice A3 L.length c3]).alloc (.cells #[.int .u64 (t : Int), .slice A2 hs.length c2, .bool cl, .slice A4 L.length c4] 76)
 have l1 := Lies.made (w.alloc (.cells #[.int .u64 (t : Int), .slice A1 hs.length c1, .bool cl, .slice A3 L.length c3] 76)) 76 #[.int .u64 (t : Int), .slice A2 hs.length c2, .bool cl, .slice A4 L.length c4]
 rw [World.size_alloc] at l1
 have hS := ref12Same (.slice A3 L.length c3) (.slice A4 L.length c4) L L L.length L.length _ (s1.later hb1) (s2.later hb1)
 rw [decide_eq_true rfl] at hS
 have HS := Lib.hid hS
 have H1 := Lib.hid (h1.later_ hb1)
 have H2 := Lib.hid (h2.later_ hb1)
 have L0 := Lib.hid l0
 have L1 := Lib.hid l1
 have HB := Lib.hid hb1
 have hc1 : hs.length ≤ c1 ∧ c1 ≤ 9223372036854775807 := by
  obtain ⟨A', c', e, k1, k2, _⟩ := h1
  simp only [Value.slice.injEq] at e
  obtain ⟨_, e2, rfl⟩ := e
  unfold maxLen at k2
  exact ⟨by omega, by omega⟩
 obtain ⟨hc1, hc2⟩ := hc1
 have hcl : (cl != cl) = false := by cases cl <;> rfl
 clear hb0 hb1 l0 l1 hS h1 h2 s1 s2
 go_enter Tryz.func43, Tryz.ntmps43
 go_wp2_with fail
 refine HS.out.mono ?_
 rintro e w1 ⟨rfl, n1, hw1⟩
 have l0 := L0.out.drewN n1
 have l1 := L1.out.drewN n1
 rw [← hw1] at l0 l1
 have hb : Below w.heap.size w w1 := by rw [hw1]; exact below_drewN HB.out n1
 have q1 : SeqAt w1 (.slice A1 hs.length c1) (cellsH hs) := by rw [hw1]; exact H1.out
 have q2 : SeqAt w1 (.slice A2 hs.length c2) (cellsH hs) := by rw [hw1]; exact H2.out
 have L0 := Lib.hid l0
 have L1 := Lib.hid l1
 have HB := Lib.hid hb
 have H1 := Lib.hid q1
 have H2 := Lib.hid q2
 clear hw1 l0 l1 hb q1 q2 HS
 go_wp2
 go_loopw [5] (fun u wr => ∃ k n : Nat, k ≤ hs.length ∧ u = .int .i64 k ∧ wr = w1.drewN n) (fun u _ => hs.length - (intOf u).toNat)
 case atStart => exact ⟨0, 0, by omega, rfl, rfl⟩
 case round =>
  obtain ⟨k, n, hk, rfl, hwr⟩ := hrel
  have l0 := L0.out.drewN n
  have l1 := L1.out.drewN n
  rw [← hwr] at l0 l1
  have d0 := (l0.cell 1).trans (show _ = some (Value.slice A1 hs.length c1) from rfl)
  have d1 := (l1.cell 1).trans (show _ = some (Value.slice A2 hs.length c2) from rfl)
  have hb : Below w1.heap.size w1 wr := by rw [hwr]; exact below_drewN (Below.refl _ _) n
  have HW := Lib.hid hwr
  have hlt0 := l0.lt
  have hlt1 := l1.lt
  clear hwr l0 l1
  by_cases hlt : k < hs.length
  ·have hki : (k : Int) < (hs.length : Int) := by omega
   obtain ⟨x, hx⟩ : ∃ x, hs[k]? = some x := ⟨_, List.getElem?_eq_getElem hlt⟩
   have hxc : (cellsH hs)[k]? = some (.int .u64 (x : Int)) := by unfold cellsH; rw [List.getElem?_map, hx]; rfl
   obtain ⟨b1, o1, e1, _, g1⟩ := H1.out.get hb hxc
   obtain ⟨b2, o2, e2, _, g2⟩ := H2.out.get hb hxc
   clear hx hxc
   subst e1 e2
   go_wp2
   go_quiet (fail)
   go_wp2
   go_roundw
   case rel => exact ⟨k + 1, n + nq, by omega, by go_num, by rw [HW.out, World.drewN_drewN]⟩
   case measure => simp [intOf]; omega
  ·obtain rfl : k = hs.length := by omega
   have hbE := HB.out.trans (hb.mono HB.out.size)
   go_wp2
   go_ret
   exact ⟨rfl, hbE⟩
theorem rgUnd17 : Tryz.prog.underlying 76 = some (.struct (Tryz.prog.fieldsOf 76)) := by kernel_rfl
theorem infoRg17 : (Tryz.prog.info? 76).map (·.size) = some 4 := by kernel_rfl
theorem rg_load {q : World} {b off : Nat} {x : Rs} {v u : Value} (h : ∀ (j : Nat) (y : Value), (rgP (x, v, u))[j]? = some y → q.cell? ⟨b, off + j, none⟩ = some y) : (loadVar 76 ⟨b, off, none⟩).run Tryz.prog q = .ok (.agg #[.int .u64 (x.tl : Int), v, .bool x.cl, u]) q := by
 exact run_loadVar_mid q b off _ (rgP (x, v, u)) _ h rgUnd17 rfl infoRg17
theorem regB_refl (x : Nat → Nat) : regB x x = true := by unfold regB; simp
theorem samT_refl (x : Th) : samT x x = true := by unfold samT; rw [regB_refl]; simp
theorem seq64_of {w : World} {A : Option Addr} {n c : Nat} {l : List Nat} (h : SeqS w 1 (.slice A n c) n (cells64 l)) : SeqAt w (.slice A n c) (cells64 l) := by
 obtain ⟨h1, A', c', e, h2, h3, _, h4⟩ := h
 simp only [Value.slice.injEq, true_and] at e
 obtain ⟨rfl, rfl⟩ := e
 have hl : (cells64 l).length = n := by rw [h1, Nat.mul_one]
 refine ⟨A, c, by rw [hl], by rw [hl]; exact h2, h3, fun k u hu => h4 k u hu⟩
structure SmS (w : World) (c1 c2 : Array Value) (q : World) : Prop where
 bel : Below w.heap.size w q
 b1 : Lies q w.heap.size 39 c1
 b2 : Lies q (w.heap.size + 1) 39 c2
theorem SmS.later {w q q1 : World} {c1 c2 : Array Value} (h : SmS w c1 c2 q) (k : Below q.heap.size q q1) : SmS w c1 c2 q1 := ⟨h.bel.trans (k.mono h.bel.size), h.b1.below k h.b1.lt, h.b2.below k h.b2.lt⟩
theorem ownTs_form {w : World} {B n c : Nat} {A : Option Addr} {l : List Th} (h : OwnTs w B (.slice A n c) l) : n = l.length ∧ n ≤ c ∧ c ≤ 9223372036854775807 := by
 obtain ⟨ps, _, h2, _⟩ := h
 obtain ⟨A9, c9, e, g1, g2⟩ := owns_form h2
 simp only [Value.slice.injEq] at e
 omega
theorem ownRs_form {w : World} {B n c : Nat} {A : Option Addr} {l : List Rs} (h : OwnRs w B (.slice A n c) l) : n = l.length ∧ n ≤ c ∧ c ≤ 9223372036854775807 := by
 obtain ⟨ps, _, h2, _⟩ := h
 obtain ⟨A9, c9, e, g1, g2⟩ := owns_form h2
 simp only [Value.slice.injEq] at e
 omega
set_option maxHeartbeats 8000000 in
set_option maxRecDepth 100000 in
theorem rfStSame (S : Sta) (A1 R1 A2 R2 : Option Addr) (a1 r1 a2 r2 B1 B2 n m : Nat) (w : World) (hn : S.th.length = n) (hm : S.rg.length = m) (t1 : OwnTs w B1 (.slice A1 n a1) S.th) (s1 : OwnRs w B1 (.slice R1 m r1) S.rg) (t2 : OwnTs w B2 (.slice A2 n a2) S.th) (s2 : OwnRs w B2 (.slice R2 m r2) S.rg) :
  Calls Tryz.prog 20 #[.agg (stC (.slice A1 n a1) (.slice R1 m r1) S.now S.rds S.en), .agg (stC (.slice A2 n a2) (.slice R2 m r2) S.now S.rds S.en)] w fun e w' => e = .returned (.bool true) ∧ Below w.heap.size w w' := by
 have hb0 : Below w.heap.size w ((w.alloc (.cells (stC (.slice A1 n a1) (.slice R1 m r1) S.now S.rds S.en) 39)).alloc (.cells (stC (.slice A2 n a2) (.slice R2 m r2) S.now S.rds S.en) 39)) := ((Below.refl _ _).alloc (Nat.le_refl _) _).alloc (by simp) _
 have l0 := (Lies.made w 39 (stC (.slice A1 n a1) (.slice R1 m r1) S.now S.rds S.en)).alloc (.cells (stC (.slice A2 n a2) (.slice R2 m r2) S.now S.rds S.en) 39)
 have l1 := Lies.made (w.alloc (.cells (stC (.slice A1 n a1) (.slice R1 m r1) S.now S.rds S.en) 39)) 39 (stC (.slice A2 n a2) (.slice R2 m r2) S.now S.rds S.en)
 rw [World.size_alloc] at l1
 have HI : Hid (SmS w (stC (.slice A1 n a1) (.slice R1 m r1) S.now S.rds S.en) (stC (.slice A2 n a2) (.slice R2 m r2) S.now S.rds S.en) ((w.alloc (.cells (stC (.slice A1 n a1) (.slice R1 m r1) S.now S.rds S.en) 39)).alloc (.cells (stC (.slice A2 n a2) (.slice R2 m r2) S.now S.rds S.en) 39))) := ⟨hb0, l0, l1⟩
 have ⟨f1, f2⟩ := (ownTs_form t1).2
 have ⟨f3, f4⟩ := (ownTs_form t2).2
 have ⟨g1, g2⟩ := (ownRs_form s1).2
 have ⟨g3, g4⟩ := (ownRs_form s2).2
 have T1 := Lib.hid t1
 have T2 := Lib.hid t2
 have S1 := Lib.hid s1
 have S2 := Lib.hid s2
 have HN := Lib.hid (And.intro hn hm)
 obtain ⟨now, hnow⟩ : ∃ x, S.now = x := ⟨_, rfl⟩
 obtain ⟨rds, hrds⟩ : ∃ x, S.rds = x := ⟨_, rfl⟩
 obtain ⟨en, hen⟩ : ∃ x, S.en = x := ⟨_, rfl⟩
 rw [hnow, hrds, hen] at HI ⊢
 have e0 : ((n : Int) != (n : Int)) = false := by simp
 have e1 : ((m : Int) != (m : Int)) = false := by simp
 have e2 : ((now : Int) != (now : Int)) = false := by simp
 have e3 : ((rds : Int) != (rds : Int)) = false := by simp
 have e4 : (en != en) = false := by cases en <;> rfl
 clear hb0 l0 l1 t1 t2 s1 s2 hn hm hnow hrds hen
 go_enter Tryz.func20, Tryz.ntmps20
 go_upto_region 1 with (fail)
 generalize hW : (w.alloc (.cells (stC (.slice A1 n a1) (.slice R1 m r1) now rds en) 39)).alloc (.cells (stC (.slice A2 n a2) (.slice R2 m r2) now rds en) 39) = w1 at *
 clear hW
 have x0 := (HI.out.b1.cell 0).trans (show _ = some (Value.slice A1 n a1) from rfl)
 have x1 := (HI.out.b1.cell 1).trans (show _ = some (Value.slice R1 m r1) from rfl)
 have x2 := (HI.out.b1.cell 2).trans (show _ = some (Value.int .u64 (now : Int)) from rfl)
 have x3 := (HI.out.b1.cell 3).trans (show _ = some (Value.int .u64 (rds : Int)) from rfl)
 have x4 := (HI.out.b1.cell 4).trans (show _ = some (Value.bool en) from rfl)
 have xl := HI.out.b1.lt
 have y0 := (HI.out.b2.cell 0).trans (show _ = some (Value.slice A2 n a2) from rfl)
 have y1 := (HI.out.b2.cell 1).trans (show _ = some (Value.slice R2 m r2) from rfl)
 have y2 := (HI.out.b2.cell 2).trans (show _ = some (Value.int .u64 (now : Int)) from rfl)
 have y3 := (HI.out.b2.cell 3).trans (show _ = some (Value.int .u64 (rds : Int)) from rfl)
 have y4 := (HI.out.b2.cell 4).trans (show _ = some (Value.bool en) from rfl)
 have yl := HI.out.b2.lt
 go_wp2_with fail
 clear x0 x1 x2 x3 x4 xl y0 y1 y2 y3 y4 yl e0 e1 e2 e3 e4
 go_loopw [5] (fun u wr => ∃ i : Nat, i ≤ n ∧ u = .int .i64 i ∧ Hid (SmS w (stC (.slice A1 n a1) (.slice R1 m r1) now rds en) (stC (.slice A2 n a2) (.slice R2 m r2) now rds en) wr)) (fun u _ => n - (intOf u).toNat)
 case atStart => exact ⟨0, by omega, rfl, HI⟩
 case round =>
  clear HI
  obtain ⟨i, hi, rfl, HI⟩ := hrel
  have x0 := (HI.out.b1.cell 0).trans (show _ = some (Value.slice A1 n a1) from rfl)
  have xl := HI.out.b1.lt
  by_cases hlt : i < n
  ·have hii : (i : Int) < (n : Int) := by omega
   obtain ⟨x, hx⟩ : ∃ x, S.th[i]? = some x := ⟨_, List.getElem?_eq_getElem (by have := HN.out.1; omega)⟩
   obtain ⟨P1, p1, A8, d8, e8, h8a, h8b, P1l, hc1⟩ := ownTs_at T1.out hx
   obtain ⟨P2, p2, A9, d9, e9, h9a, h9b, P2l, hc2⟩ := ownTs_at T2.out hx
   clear h8a h8b h9a h9b
   simp only [Value.slice.injEq] at e8 e9
   have e81 := e8.1
   have e91 := e9.1
   clear e8 e9
   subst e81
   subst e91
   have hbd := (Below.refl wr.heap.size wr).drew
   have HI5 := Lib.hid (HI.out.later hbd)
   have hs1 := (hc1 wr.drew HI5.out.bel).2
   have hs2 := (hc2 wr.drew HI5.out.bel).2
   have hld1 := th_load (hc1 wr.drew HI5.out.bel).1
   have hld2 := th_load (hc2 wr.drew HI5.out.bel).1
   have HSM := Lib.hid (rfThSame x x A8 d8 A9 d9 wr.drew (seq64_of hs1) (seq64_of hs2))
   rw [samT_refl] at HSM
   have P1w := Nat.lt_of_lt_of_le P1l HI5.out.bel.size
   have P2w := Nat.lt_of_lt_of_le P2l HI5.out.bel.size
   clear hc1 hc2 hs1 hs2 P1l P2l hx hbd
   go_upto_region 6 with (fail)
   clear x0 xl
   have x0 := (HI5.out.b1.cell 0).trans (show _ = some (Value.slice (some ⟨P1, 0, none⟩) n a1) from rfl)
   have xl := HI5.out.b1.lt
   have y0 := (HI5.out.b2.cell 0).trans (show _ = some (Value.slice (some ⟨P2, 0, none⟩) n a2) from rfl)
   have yl := HI5.out.b2.lt
   clear HI
   refine wp_region_still_tail 10 (by kernel_rfl) (by kernel_rfl) ?_
   simp only [List.take_succ_cons, List.take_zero, List.drop_succ_cons, List.drop_zero]
   change wpStill _ _ wr.drew (fun a' => wpList _ _ _ _ a' wr.drew) _ _
   generalize wr.drew = w5 at *
   iterate 4 still_step
   refine wpStill_step (fun K hK => ?_)
   rw [if_pos (by kernel_rfl)]
   refine still_load_mid _ _ rfl _ _ rfl _ hld1 (hK _ ?_)
   clear hK K
   iterate 4 still_step
   refine wpStill_step (fun K hK => ?_)
   rw [if_pos (by kernel_rfl)]
   refine still_load_mid _ _ rfl _ _ rfl _ hld2 (hK _ ?_)
   clear hK K
   refine wpStill_nil ?_
   clear hld1 hld2 x0 xl y0 yl
   go_wp2_with fail
   refine HSM.out.mono ?_
   rintro e w6 ⟨rfl, hb6⟩
   have HI6 := Lib.hid (HI5.out.later hb6)
   clear hb6 HI5 HSM
   go_wp2
   go_roundw
   case rel => exact ⟨i + 1, by omega, by go_num, HI6⟩
   case measure => simp [intOf]; omega
  ·obtain rfl : i = n := by omega
   clear hi hlt
   go_wp2_with fail
   clear x0 xl
   go_loopw [6] (fun u wq => ∃ j : Nat, j ≤ m ∧ u = .int .i64 j ∧ Hid (SmS w (stC (.slice A1 i a1) (.slice R1 m r1) now rds en) (stC (.slice A2 i a2) (.slice R2 m r2) now rds en) wq)) (fun u _ => m - (intOf u).toNat)
   case atStart => exact ⟨0, by omega, rfl, HI⟩
   case round =>
    clear HI
    obtain ⟨j, hj, rfl, HI⟩ := hrel
    have x1 := (HI.out.b1.cell 1).trans (show _ = some (Value.slice R1 m r1) from rfl)
    have xl := HI.out.b1.lt
    by_cases hlt : j < m
    ·have hii : (j : Int) < (m : Int) := by omega
     obtain ⟨x, hx⟩ : ∃ x, S.rg[j]? = some x := ⟨_, List.getElem?_eq_getElem (by have := HN.out.2; omega)⟩
     obtain ⟨P1, p1, A7, d7, A8, d8, e8, h8a, h8b, P1l, hc1⟩ := ownRs_at S1.out hx
     obtain ⟨P2, p2, A5, d5, A9, d9, e9, h9a, h9b, P2l, hc2⟩ := ownRs_at S2.out hx
     clear h8a h8b h9a h9b
     simp only [Value.slice.injEq] at e8 e9
     have e81 := e8.1
     have e91 := e9.1
     clear e8 e9
     subst e81
     subst e91
     have hbd := (Below.refl wr.heap.size wr).drew
     have HI5 := Lib.hid (HI.out.later hbd)
     have hs1 := (hc1 wr.drew HI5.out.bel).2
     have hs2 := (hc2 wr.drew HI5.out.bel).2
     have hld1 := rg_load (hc1 wr.drew HI5.out.bel).1
     have hld2 := rg_load (hc2 wr.drew HI5.out.bel).1
     have HSM := Lib.hid (ref13Same x.tl x.hs x.cl x.sl A7 A5 A8 A9 d7 d5 d8 d9 wr.drew (seqAt_of hs1.1) (seqAt_of hs2.1) hs1.2 hs2.2)
     have P1w := Nat.lt_of_lt_of_le P1l HI5.out.bel.size
     have P2w := Nat.lt_of_lt_of_le P2l HI5.out.bel.size
     clear hc1 hc2 hs1 hs2 P1l P2l hx hbd
     go_upto_region 11 with (fail)
     clear x1 xl
     have x1 := (HI5.out.b1.cell 1).trans (show _ = some (Value.slice (some ⟨P1, 0, none⟩) m r1) from rfl)
     have xl := HI5.out.b1.lt
     have y1 := (HI5.out.b2.cell 1).trans (show _ = some (Value.slice (some ⟨P2, 0, none⟩) m r2) from rfl)
     have yl := HI5.out.b2.lt
     clear HI
     refine wp_region_still_tail 10 (by kernel_rfl) (by kernel_rfl) ?_
     simp only [List.take_succ_cons, List.take_zero, List.drop_succ_cons, List.drop_zero]
     change wpStill _ _ wr.drew (fun a' => wpList _ _ _ _ a' wr.drew) _ _
     generalize wr.drew = w5 at *
     iterate 4 still_step
     refine wpStill_step (fun K hK => ?_)
     rw [if_pos (by kernel_rfl)]
     refine still_load_mid _ _ rfl _ _ rfl _ hld1 (hK _ ?_)
     clear hK K
     iterate 4 still_step
     refine wpStill_step (fun K hK => ?_)
     rw [if_pos (by kernel_rfl)]
     refine still_load_mid _ _ rfl _ _ rfl _ hld2 (hK _ ?_)
     clear hK K
     refine wpStill_nil ?_
     clear hld1 hld2 x1 xl y1 yl
     go_wp2_with fail
     refine HSM.out.mono ?_
     rintro e w6 ⟨rfl, hb6⟩
     have HI6 := Lib.hid (HI5.out.later hb6)
     clear hb6 HI5 HSM
     go_wp2
     go_roundw
     case rel => exact ⟨j + 1, by omega, by go_num, HI6⟩
     case measure => simp [intOf]; omega
    ·obtain rfl : j = m := by omega
     clear hj hlt
     go_wp2
     go_ret
     exact ⟨rfl, HI.out.bel⟩
def StV (S : Sta) (B : Nat) (v : Value) (q : World) : Prop := ∃ A c R d, v = .agg (stC (.slice A S.th.length c) (.slice R S.rg.length d) S.now S.rds S.en) ∧ OwnTs q B (.slice A S.th.length c) S.th ∧ OwnRs q B (.slice R S.rg.length d) S.rg
theorem owns_bound {S : Nat → Prop} {q q' : World} {B sz n : Nat} {e : TypeId} {v : Value} {xs : List Value} (h : q.ownsRow B e sz v n xs) (kp : Kept S q q') (hS : ∀ r, S r → r < B) : q'.ownsRow B e sz v n xs :=
 owns_kept h kp (fun r cur hr _ hs => by have := hS r hs; have := (own_lt17 h hr).1; omega)
theorem OwnL.bound {S : Nat → Prop} {q q' : World} {B sz n : Nat} {e : TypeId} {v : Value} {xs : List Value} (h : OwnL q B e sz n xs v) (kp : Kept S q q') (hS : ∀ r, S r → r < B) : OwnL q' B e sz n xs v := by
 obtain ⟨A, c, e1, h1⟩ := h
 exact ⟨A, c, e1, owns_bound h1 kp hS⟩
theorem StV.kept {Z : Sta} {B : Nat} {v : Value} {q q' : World} {S : Nat → Prop} (h : StV Z B v q) (kp : Kept S q q') (hS : ∀ r, S r → r < B) : StV Z B v q' := by
 obtain ⟨A, c, R, d, e, ⟨ps, h1, h2, h3⟩, qs, g1, g2, g3⟩ := h
 exact ⟨A, c, R, d, e, ⟨ps, h1, owns_bound h2 kp hS, fun p hp => (h3 p hp).bound kp hS⟩, qs, g1, owns_bound g2 kp hS, fun x hx => ⟨(g3 x hx).1.bound kp hS, (g3 x hx).2.bound kp hS⟩⟩
theorem StV.below {S : Sta} {B : Nat} {v : Value} {q q' : World} (hb : Below q.heap.size q q') (h : StV S B v q) : StV S B v q' := h.kept (Kept.of_below hb) (fun _ hf => hf.elim)
theorem stV_of {w q : World} {S : Sta} {r : Ending} (h : StPost w S r q) : ∃ v, r = .returned v ∧ StV S w.heap.size v q ∧ Below w.heap.size w q := by
 obtain ⟨A, c, R, d, h1, h2, h3, h4⟩ := h
 exact ⟨_, h1, ⟨A, c, R, d, rfl, h2, h3⟩, h4⟩
theorem stSameV {S : Sta} {B C : Nat} {u v : Value} {q : World} (h1 : StV S B u q) (h2 : StV S C v q) : Calls Tryz.prog 20 #[u, v] q fun e w' => e = .returned (.bool true) ∧ Below q.heap.size q w' := by
 obtain ⟨A, c, R, d, rfl, a1, a2⟩ := h1
 obtain ⟨A', c', R', d', rfl, b1, b2⟩ := h2
 exact rfStSame S A R A' R' c d c' d' B C _ _ q rfl rfl a1 a2 b1 b2
theorem fbStV {w : World} {B F k : Nat} {f : Fb} {z : Fv} (h : FabAt w B F f z) (g : FbGood f k) (hk : k ≤ 1000) (ht : f.p.ts.length ≤ 8) (hr : f.p.rs.length ≤ 8) : Calls Tryz.prog 21 #[.pointer (some ⟨F, 0, none⟩)] w fun r w' => ∃ v, r = .returned v ∧ StV (stF f) w.heap.size v w' ∧ Below w.heap.size w w' :=
 (fbState h g.ok (fun t => by have := sn_le g.sn t; omega) (by omega) (by omega)).mono fun _ _ hp => stV_of hp
def cpR (x : La) : Rg := if x.cl = true then { x.R with cl := true } else x.R
set_option maxHeartbeats 8000000 in
set_option maxRecDepth 100000 in
theorem lnCopy {w : World} {g o : Nat} {T : TypeId} {pre post : List Value} (x : La) (h : RgAt w g T pre (.bool x.cl :: post) x.R) (ho : pre.length = o) (hc : w.cell? ⟨g, o + 206, none⟩ = some (.bool x.cl)) :
  Calls Tryz.prog 57 #[.pointer (some ⟨g, o, none⟩)] w fun e w' => ∃ q, e = .returned (.pointer (some ⟨q, 0, none⟩)) ∧ w.heap.size ≤ q ∧ RgAt w' q 95 [] [] (cpR x) ∧ Below w.heap.size w w' := by
 obtain ⟨ok, M, m1, m2, m3⟩ := h
 have hlen : (cuR x.R ++ slObj x.R.rd x.R.L M).length = 206 := by rw [List.length_append, cuR_length ok, slObj_length, m1]
 obtain ⟨cs, hcs⟩ : ∃ cs, cuR x.R ++ slObj x.R.rd x.R.L M = cs := ⟨_, rfl⟩
 have hcell : ∀ (j : Nat) (u : Value), cs[j]? = some u → w.cell? ⟨g, o + j, none⟩ = some u := fun j u hu => by
  have hj := (List.getElem?_eq_some_iff.1 hu).1
  rw [m3.cell, List.getElem?_toArray, show pre ++ cuR x.R ++ (slObj x.R.rd x.R.L M ++ .bool x.cl :: post) = pre ++ (cs ++ .bool x.cl :: post) by rw [← hcs]; simp, List.getElem?_append_right (by omega), ho, Nat.add_sub_cancel_left, List.getElem?_append_left hj]
  exact hu
 rw [hcs] at hlen
 have hld : (loadVar 95 ⟨g, o, none⟩).run Tryz.prog w = .ok (.agg cs.toArray) w := run_loadVar_mid w g o _ cs _ hcell ringUnder rfl (by rw [hlen]; exact ringInfo)
 have hone : cs.toArray.all (·.oneCell') = true := all_oneCell_toArray (fun u hu => lnF_one ⟨x.R, M, x.cl⟩ u (by unfold lnF; rw [← List.append_assoc, hcs]; exact List.mem_append_left _ hu))
 have hgl := m3.lt
 have HRG : Hid (∀ q, Lies q w.heap.size 95 cs.toArray → RgAt q w.heap.size 95 [] [] x.R) := fun q hq => by
  refine ⟨ok, M, m1, m2, ?_⟩
  rw [List.nil_append, List.append_nil, hcs]; exact hq
 obtain ⟨b, hb⟩ : ∃ b, x.cl = b := ⟨_, rfl⟩
 have HCP : Hid (cpR x = if b = true then { x.R with cl := true } else x.R) := by show _ = _; unfold cpR; rw [hb]
 rw [hb] at hc
 clear m1 m2 m3 hcell hcs hb ok
 go_enter Tryz.func57, Tryz.ntmps57
 go_upto_region 1 with (fail)
 have l0 := Lies.made w 95 Tryz.zeroCells95
 have hz : Tryz.zeroCells95.size = 206 := by kernel_rfl
 have HTH : Hid ((w.alloc (.cells Tryz.zeroCells95 95)).there w.heap.size 0 cs.toArray.size) := lies_there l0 (by rw [List.size_toArray, hlen, hz]; exact Nat.le_refl _)
 have hsz : (Tryz.prog.info? 95).map (·.size) = some cs.toArray.size := by rw [List.size_toArray, hlen]; exact ringInfo
 have HON := Lib.hid hone
 have hl9 : Lies ((w.alloc (.cells Tryz.zeroCells95 95)).setCells w.heap.size 0 cs.toArray.toList) w.heap.size 95 cs.toArray := by
  have hn := lies_cells cs [] Tryz.zeroCells95.toList [] (w.alloc (.cells Tryz.zeroCells95 95)) (by rw [hlen, Array.length_toList, hz]) (by rw [List.nil_append, List.append_nil]; exact l0)
  rw [List.nil_append, List.append_nil] at hn
  exact hn
 have hb9 : Below w.heap.size w ((w.alloc (.cells Tryz.zeroCells95 95)).setCells w.heap.size 0 cs.toArray.toList) := by
  have hb := (Below.refl w.heap.size w).alloc (Nat.le_refl _) (.cells Tryz.zeroCells95 95)
  exact hb.trans ((kept_cells (g := w.heap.size) cs.toArray.toList 0 _).below hb.size (fun r hr (e : r = w.heap.size) => by omega))
 have HL9 := Lib.hid hl9
 have HB9 := Lib.hid hb9
 clear l0 hz hl9 hb9 hone
 have hc9 : ((w.alloc (.cells Tryz.zeroCells95 95)).setCells w.heap.size 0 cs.toArray.toList).cell? ⟨g, o + 206, none⟩ = some (.bool b) := (HB9.out.cell hgl).trans hc
 have HC9 := Lib.hid hc9
 clear hc9
 go_upto_region 2 with (first | refine wpList_load_known rfl _ _ rfl g o rfl _ hld ?_ | refine wpList_store_mid rfl 95 _ _ rfl w.heap.size 0 cs.toArray rfl rfl HTH.out hsz HON.out ?_)
 have HR9 := Lib.hid (HRG.out _ HL9.out)
 clear HTH hsz HON HRG HL9 hld hlen hc
 simp only [List.toList_toArray] at HB9 HC9 HR9
 generalize (w.alloc (.cells Tryz.zeroCells95 95)).setCells w.heap.size 0 cs = w9 at *
 have c9 := HC9.out
 have gl := Nat.lt_of_lt_of_le hgl HB9.out.size
 cases b with
 | false =>
  have hcp : cpR x = x.R := by rw [HCP.out]; rfl
  have HPO : Hid (RgAt w9 w.heap.size 95 [] [] (cpR x)) := by rw [hcp]; exact HR9.out
  clear hcp HCP HC9 HR9
  go_wp2
  go_ret
  exact ⟨_, rfl, Nat.le_refl _, HPO.out, HB9.out⟩
 | true =>
  have hcp : cpR x = { x.R with cl := true } := by rw [HCP.out]; rfl
  have HCL := Lib.hid (rgClose HR9.out rfl)
  have HCP2 := Lib.hid hcp
  clear hcp HCP HC9 HR9
  go_wp2_with fail
  refine HCL.out.mono ?_
  rintro e w' ⟨rfl, hr, hk⟩
  have HPO : Hid (RgAt w' w.heap.size 95 [] [] (cpR x)) := by rw [HCP2.out]; exact hr
  have HB' := Lib.hid (HB9.out.trans (hk.below HB9.out.size (fun r hr (e : r = w.heap.size) => by omega)))
  clear hr hk HCP2 HCL c9 gl
  go_wp2
  go_ret
  exact ⟨_, rfl, Nat.le_refl _, HPO.out, HB'.out⟩
section
variable {w : World} {B F : Nat} {f : Fb} {z : Fv}
set_option maxHeartbeats 8000000 in
set_option maxRecDepth 100000 in
theorem fbRing (i : Nat) (hi : i < f.p.rs.length) (h : FabAt w B F f z) (ok : FbOk f) : Calls Tryz.prog 25 #[.pointer (some ⟨F, 0, none⟩), .int .i64 (i : Int)] w fun e w' => ∃ q, e = .returned (.pointer (some ⟨q, 0, none⟩)) ∧ w.heap.size ≤ q ∧ RgAt w' q 95 [] [] (cpR (lnN f (i : Int))) ∧ Below w.heap.size w w' := by
 obtain ⟨r, cap, pre, post, e1, q1, q2, q3, q4, q5, q6⟩ := h.lane ok (i := (i : Int)) (by omega) (by omega)
 obtain ⟨_, _, _, _, c4, _⟩ := h.cells
 rw [e1] at c4
 have hlf := h.lt
 have hii : (i : Int) < (f.p.rs.length : Int) := by omega
 obtain ⟨n, hn⟩ : ∃ n, f.p.rs.length = n := ⟨_, rfl⟩
 rw [hn] at c4 q1 hii
 rw [Int.toNat_natCast] at q4 q6
 have HC := Lib.hid (lnCopy (lnN f (i : Int)) q5 q4 q6)
 clear h ok hn e1 q4 q5 q6 hi
 go_enter Tryz.func25, Tryz.ntmps25
 go_wp2_with fail
 refine HC.out.mono ?_
 rintro e w' ⟨q, rfl, h1, h2, h3⟩
 have HH := Lib.hid (And.intro h1 (And.intro h2 h3))
 clear h1 h2 h3 HC
 go_wp2
 go_ret
 exact ⟨_, rfl, HH.out⟩
end
section
variable {f : Fb} {e : Ev}
theorem lnN_set (f : Fb) (i : Int) (R : Rg) (c : Bool) (j : Nat) (hj : i.toNat < f.ln.length) : lnN (setL f i R c) (j : Int) = if j = i.toNat then ⟨R, c⟩ else lnN f (j : Int) := by
 show (f.ln.set i.toNat ⟨R, c⟩).getD _ default = _
 rw [Int.toNat_natCast]
 by_cases h : j = i.toNat
 ·subst h
  rw [if_pos rfl, List.getD_eq_getElem?_getD, List.getElem?_set_self hj]; rfl
 ·rw [if_neg h, List.getD_eq_getElem?_getD, List.getElem?_set_ne (Ne.symm h), ← List.getD_eq_getElem?_getD]
  show _ = f.ln.getD _ default
  rw [Int.toNat_natCast]
end
def stepLa (e : Ev) (a : Ak) (x : La) : La :=
 if e.kd = 1 then ⟨claimR x.R, x.cl⟩ else if e.kd = 2 then ⟨pubR x.R e.tk a.vl, x.cl⟩ else if e.kd = 3 then ⟨takeR x.R a.rd, x.cl⟩ else if e.kd = 4 then ⟨relR x.R a.rd e.tk, x.cl⟩ else if e.kd = 13 then ⟨x.R, true⟩ else x
theorem perf_lane {f : Fb} {e : Ev} (ok : FbOk f) (hp : RgIn f.p) (hn : namesF f e = 0) (hm : matF f e = true) (j : Nat) : lnN (perfF f e) (j : Int) = if j = e.rg.toNat then stepLa e (askF f e.th.toNat) (lnN f (j : Int)) else lnN f (j : Int) := by
 have hl : ∀ hk : onLane e.kd, e.rg.toNat < f.ln.length := fun hk => by
  obtain ⟨a, b⟩ := mat_rg ok hp hn hm hk
  rw [ok.ll]; omega
 have e0 : lnN (perfF f e) (j : Int) = lnN (movF f e (askF f e.th.toNat)).1 (j : Int) := rfl
 have hrg : j = e.rg.toNat → onLane e.kd → lnN f e.rg = lnN f (j : Int) := fun hj hk => by
  obtain ⟨a, _⟩ := mat_rg ok hp hn hm hk
  rw [hj, show ((e.rg.toNat : Nat) : Int) = e.rg by omega]
 rw [e0]
 unfold movF stepLa
 by_cases k1 : e.kd = 1
 ·have hk : onLane e.kd := .inl k1
  rw [if_pos k1, if_pos k1, lnN_set _ _ _ _ _ (hl hk)]
  by_cases hj : j = e.rg.toNat
  ·rw [if_pos hj, if_pos hj, hrg hj hk]
  ·rw [if_neg hj, if_neg hj]
 rw [if_neg k1, if_neg k1]
 by_cases k2 : e.kd = 2
 ·have hk : onLane e.kd := .inr (.inl k2)
  rw [if_pos k2, if_pos k2, lnN_set _ _ _ _ _ (hl hk)]
  by_cases hj : j = e.rg.toNat
  ·rw [if_pos hj, if_pos hj, hrg hj hk]
  ·rw [if_neg hj, if_neg hj]
 rw [if_neg k2, if_neg k2]
 by_cases k3 : e.kd = 3
 ·have hk : onLane e.kd := .inr (.inr (.inl k3))
  rw [if_pos k3, if_pos k3, lnN_set _ _ _ _ _ (hl hk)]
  by_cases hj : j = e.rg.toNat
  ·rw [if_pos hj, if_pos hj, hrg hj hk]
  ·rw [if_neg hj, if_neg hj]
 rw [if_neg k3, if_neg k3]
 by_cases k4 : e.kd = 4
 ·have hk : onLane e.kd := .inr (.inr (.inr (.inl k4)))
  rw [if_pos k4, if_pos k4, lnN_set _ _ _ _ _ (hl hk)]
  by_cases hj : j = e.rg.toNat
  ·rw [if_pos hj, if_pos hj, hrg hj hk]
  ·rw [if_neg hj, if_neg hj]
 rw [if_neg k4, if_neg k4]
 by_cases k13 : e.kd = 13
 ·have hk : onLane e.kd := by unfold onLane; omega
  rw [if_pos k13, if_pos k13, lnN_set _ _ _ _ _ (hl hk)]
  by_cases hj : j = e.rg.toNat
  ·rw [if_pos hj, if_pos hj, hrg hj hk]
  ·rw [if_neg hj, if_neg hj]
 rw [if_neg k13, if_neg k13]
 have hif : ∀ x : La, (if j = e.rg.toNat then x else x) = x := fun x => ite_self x
 rw [hif]
 repeat' split
 all_goals rfl
theorem sub_bits0 : ∀ n : Nat, n < 256 → ∀ j : Nat, j < 8 → ∀ i : Nat, i < 8 → (hasBit (n : Int) j = true ∧ i ≠ j) → hasBit ((n : Int) - 2 ^ j) i = hasBit (n : Int) i := by decide +kernel
theorem sub_bits (n : Nat) (hn : n < 256) (j : Nat) (hj : j < 8) (h : hasBit n j = true) (i : Nat) (hi : i < 8) (hij : i ≠ j) : hasBit ((n : Int) - 2 ^ j) i = hasBit n i := sub_bits0 n hn j hj i hi ⟨h, hij⟩
theorem every_bits : ∀ r : Nat, r < 9 → ∀ j : Nat, j < r → hasBit (everyN r) j = true := by decide +kernel
theorem every_pos : ∀ r : Nat, r < 9 → 1 ≤ r → 0 < everyN r := by decide +kernel
theorem zero_bit : ∀ i : Nat, i < 8 → hasBit 0 i = false := by decide +kernel
theorem foldl_min_in (l : List Nat) : ∀ a, l.foldl min a = a ∨ l.foldl min a ∈ l := by
 induction l with
 | nil => intro a; exact .inl rfl
 | cons b l ih =>
  intro a
  rw [List.foldl_cons]
  rcases ih (min a b) with h | h
  ·rw [h]
   rcases Nat.le_total a b with hab | hab
   ·left; exact Nat.min_eq_left hab
   ·right; rw [Nat.min_eq_right hab]; exact List.mem_cons_self
  ·right; exact List.mem_cons_of_mem _ h
theorem foldl_min_memK (l : List Nat) : ∀ a, ∀ x ∈ l, l.foldl min a ≤ x := by
 induction l with
 | nil => intro a x hx; cases hx
 | cons b l ih =>
  intro a x hx
  rw [List.foldl_cons]
  rcases List.mem_cons.1 hx with rfl | hx
  ·exact Nat.le_trans (foldl_min_le _ _) (Nat.min_le_right _ _)
  ·exact ih _ x hx
theorem leastN_in {R : Rg} (h : RgOk R) : leastN R ∈ R.h8.take R.rd := by
 have h8 := h.1
 have hr := h.2.1.2.2.1
 have h0 : R.h8.getD 0 0 ∈ R.h8.take R.rd := by
  rw [List.mem_iff_getElem?]
  refine ⟨0, ?_⟩
  rw [List.getElem?_take, if_pos (by omega), List.getD_eq_getElem?_getD, List.getElem?_eq_getElem (by omega)]; rfl
 rcases foldl_min_in (R.h8.take R.rd) (R.h8.getD 0 0) with e | e
 ·unfold leastN; rw [e]; exact h0
 ·exact e
structure Inv (R : Rg) : Prop where
 ok : RgOk R
 room : ∀ h ∈ R.h8.take R.rd, R.tail - h ≤ R.cap
 rest : R.h8 = R.h8.take R.rd ++ List.replicate (8 - R.rd) 0
 stands : ∀ i x, R.L[i]? = some x → standsB R.L.length R.rd i x = true
 place : ∀ x ∈ R.L, placeB R x = true
theorem Inv.loads {R : Rg} (h : Inv R) (ht : R.tail < 4611686018427387904) : loadsB R.cap R.rd R.tail R.cl (R.h8.take R.rd) R.L = true ∧ loadR R.cap R.rd R.tail R.cl (R.h8.take R.rd) R.L = R := by
 have h8 := h.ok.1
 have hr := h.ok.2.1.2.2.2.1
 have hl : (R.h8.take R.rd).length = R.rd := by rw [List.length_take]; omega
 have hR : loadR R.cap R.rd R.tail R.cl (R.h8.take R.rd) R.L = R := by
  unfold loadR
  rw [hl, ← h.rest]
 refine ⟨?_, hR⟩
 unfold loadsB
 rw [hR, hl, decide_eq_true rfl, Bool.true_and]
 simp only [Bool.and_eq_true]
 refine ⟨?_, ?_, ?_⟩
 ·unfold loadB
  rw [Bool.and_eq_true, List.all_eq_true]
  refine ⟨decide_eq_true h.ok.2.2.1.symm, fun i hi => ?_⟩
  have hi := List.mem_range.1 hi
  rw [h.ok.2.2.1] at hi ⊢
  refine h.stands i _ ?_
  rw [List.getD_eq_getElem?_getD, List.getElem?_eq_getElem hi]; rfl
 ·unfold cursB headsB
  simp only [Bool.and_eq_true, decide_eq_true_eq, List.all_eq_true]
  exact ⟨fun x hx => h.ok.2.2.2.2 x (List.mem_of_mem_take hx), ht, h.room _ (leastN_in h.ok)⟩
 ·unfold slotsB
  rw [List.all_eq_true]
  exact h.place
theorem passB_iff (R : Rg) (t : Nat) (l : Int) : passB R t l = true ↔ ∀ j, j < R.rd → hasBit l j = true ∨ t < R.h8.getD j 0 := by
 unfold passB
 rw [List.all_eq_true]
 constructor
 ·intro h j hj
  have := h j (List.mem_range.2 hj)
  simpa using this
 ·intro h j hj
  have := h j (List.mem_range.1 hj)
  simpa using this
theorem placeB_iff (R : Rg) (x : Sl) : placeB R x = true ↔ (x.s % 2 = 1 ∧ x.s / 2 < R.tail ∧ passB R (x.s / 2) x.l = true) ∨ (x.s % 2 ≠ 1 ∧ (x.s / 2 < R.cap ∨ passB R (x.s / 2 - R.cap) 0 = true)) := by
 unfold placeB
 by_cases h : x.s % 2 = 1
 ·rw [if_pos h]; simp [h]
 ·rw [if_neg h]; simp [h]
theorem placeB_mono {R R' : Rg} {x : Sl} (h : placeB R x = true) (hc : R'.cap = R.cap) (hr : R'.rd = R.rd) (ht : R.tail ≤ R'.tail) (hh : ∀ j, R.h8.getD j 0 ≤ R'.h8.getD j 0) : placeB R' x = true := by
 have hp : ∀ t l, passB R t l = true → passB R' t l = true := fun t l h => by
  rw [passB_iff] at h ⊢
  intro j hj
  rcases h j (by omega) with h | h
  ·exact .inl h
  ·exact .inr (Nat.lt_of_lt_of_le h (hh j))
 rw [placeB_iff] at h ⊢
 rw [hc]
 rcases h with ⟨h1, h2, h3⟩ | ⟨h1, h2⟩
 ·exact .inl ⟨h1, by omega, hp _ _ h3⟩
 ·exact .inr ⟨h1, h2.imp id (hp _ _)⟩
theorem Inv.new {cap rd : Nat} (h1 : 1 ≤ cap) (h2 : cap ≤ 64) (h3 : 1 ≤ rd) (h4 : rd ≤ 8) : Inv (newR cap rd) := by
 refine ⟨newR_ok h1 h2 h3 h4, fun h hh => by unfold newR; simp only; omega, ?_, fun i x hx => ?_, fun x hx => ?_⟩
 ·unfold newR; simp only
  rw [show [0, 0, 0, 0, 0, 0, 0, 0] = List.replicate 8 0 from rfl, List.take_replicate, List.replicate_append_replicate, Nat.min_eq_left h4]
  congr 1; omega
 ·unfold newR at hx ⊢
  simp only at hx ⊢
  have hi : i < cap := by have := (List.getElem?_eq_some_iff.1 hx).1; rwa [newS_length] at this
  rw [newS_length]
  have : x = ⟨2 * i, 0, 0⟩ := by
   unfold newS at hx
   simp [hi] at hx
   exact hx.symm
  subst this
  unfold standsB
  simp only
  refine decide_eq_true ⟨by omega, ?_, ?_⟩
  ·rw [Nat.mul_div_cancel_left _ (by decide), Nat.mod_eq_of_lt hi]
  ·rw [if_pos (by omega)]; exact ⟨trivial, trivial⟩
 ·unfold newR at hx
  simp only at hx
  unfold newS at hx
  obtain ⟨i, hi, rfl⟩ := List.mem_map.1 hx
  have hi := List.mem_range.1 hi
  rw [placeB_iff]
  right
  simp only
  exact ⟨by omega, .inl (by unfold newR; simp only; omega)⟩
theorem Inv.claim {R : Rg} (h : Inv R) (ht : R.tail < 4611687117939015680) : Inv (claimR R) := by
 unfold claimR
 split
 ·rename_i he
  have hok := claimR_ok h.ok ht
  unfold claimR at hok
  rw [if_pos he] at hok
  refine ⟨hok, fun x hx => ?_, h.rest, h.stands, fun x hx => placeB_mono (h.place x hx) rfl rfl (by simp) (fun j => Nat.le_refl _)⟩
  have hf : fullB R = false := by
   unfold claimE at he
   split at he
   ·exact absurd he (by decide)
   ·split at he
    ·exact absurd he (by decide)
    ·simpa using ‹¬ fullB R = true›
  unfold fullB at hf
  have hf := of_decide_eq_false hf
  have hlx : leastN R ≤ x := by
   unfold leastN
   exact foldl_min_memK _ _ x hx
  have := leastN_le h.ok
  simp only
  omega
 ·exact h
theorem take_getD {l : List Nat} {i x j : Nat} (hi : l[i]? = some x) : l.getD j 0 ≤ (l.set i (x + 1)).getD j 0 := by
 rw [List.getD_eq_getElem?_getD, List.getD_eq_getElem?_getD]
 by_cases e : i = j
 ·subst e
  rw [List.getElem?_set_self (List.getElem?_eq_some_iff.1 hi).1, hi]
  simp
 ·rw [List.getElem?_set_ne e]; exact Nat.le_refl _
theorem Inv.take {R : Rg} (h : Inv R) (j : Int) : Inv (takeR R j) := by
 have hok := takeR_ok h.ok j
 unfold takeR at hok ⊢
 split
 ·rename_i he
  rw [if_pos he] at hok
  obtain ⟨hr, hne⟩ := takeE_ok he
  obtain ⟨g1, g2, g3⟩ := headN_get h.ok hr
  obtain ⟨j0, j1⟩ := of_decide_eq_true hr
  have hjr : j.toNat < R.rd := by omega
  refine ⟨hok, fun x hx => ?_, ?_, h.stands, fun x hx => placeB_mono (h.place x hx) rfl rfl (Nat.le_refl _) (fun i => take_getD g1)⟩
  ·simp only at hx ⊢
   rw [List.take_set] at hx
   rcases List.mem_or_eq_of_mem_set hx with hx | rfl
   ·exact h.room x hx
   ·have := h.room (headN R j) (by rw [List.mem_iff_getElem?]; exact ⟨j.toNat, by rw [List.getElem?_take, if_pos hjr]; exact g1⟩)
    omega
  ·simp only
   have h8 := h.ok.1
   rw [List.take_set]
   conv => lhs; rw [h.rest]
   rw [List.set_append_left _ _ (by rw [List.length_take]; omega)]
 ·exact h
theorem mem_set_or {L : List Sl} {i : Nat} {y x : Sl} (h : x ∈ L.set i y) : x ∈ L ∨ x = y := List.mem_or_eq_of_mem_set h
theorem Inv.pub {R : Rg} (h : Inv R) (t v : Nat) (hv : v < 18446744073709551616) : Inv (pubR R t v) := by
 have hok := pubR_ok h.ok t v hv
 unfold pubR at hok ⊢
 split
 ·exact h
 ·rename_i hlt
  rw [if_neg hlt] at hok
  unfold putS at hok ⊢
  split
  ·rename_i he
   rw [if_pos he] at hok
   have ht62 : t < 4611686018427387904 := by
    unfold putE at he
    by_cases ht : 4611686018427387904 ≤ t
    ·rw [if_pos ht] at he; exact absurd he (by decide)
    ·omega
   have hr1 := h.ok.2.1.2.2.1
   have hr2 := h.ok.2.1.2.2.2.1
   refine ⟨hok, h.room, h.rest, fun i x hx => ?_, fun x hx => ?_⟩
   ·simp only at hx ⊢
    rw [List.length_set]
    rw [List.getElem?_set] at hx
    split at hx
    ·rename_i hi
     split at hx
     ·injection hx with hx
      subst hx
      unfold standsB
      simp only
      refine decide_eq_true ⟨by omega, ?_, ?_⟩
      ·rw [show (2 * t + 1) / 2 = t by omega]; exact hi
      ·rw [if_neg (by omega)]; exact ⟨every_pos _ (by omega) hr1, Int.le_refl _⟩
     ·cases hx
    ·exact h.stands i x hx
   ·simp only at hx
    rcases mem_set_or hx with hx | rfl
    ·exact placeB_mono (h.place x hx) rfl rfl (Nat.le_refl _) (fun j => Nat.le_refl _)
    ·rw [placeB_iff]
     left
     simp only
     refine ⟨by omega, by omega, ?_⟩
     rw [passB_iff]
     exact fun j hj => .inl (every_bits _ (by omega) j hj)
  ·exact ⟨h.ok, h.room, h.rest, h.stands, fun x hx => placeB_mono (h.place x hx) rfl rfl (Nat.le_refl _) (fun j => Nat.le_refl _)⟩
theorem Inv.rel {R : Rg} (h : Inv R) (j : Int) (t : Nat) (ht0 : R.tail < 4611686018427387000) : Inv (relR R j t) := by
 have hok := relR_ok h.ok j t
 unfold relR at hok ⊢
 split
 ·rename_i he
  rw [if_pos he] at hok
  have hrd : readsB R j = true ∧ t < headN R j ∧ getE R.rd R.L j t = 0 := by
   unfold relE at he
   split at he
   ·exact absurd he (by decide)
   ·split at he
    ·exact absurd he (by decide)
    ·rename_i h1 h2
     exact ⟨by simpa using h1, by omega, he⟩
  obtain ⟨hr, hth, hg⟩ := hrd
  obtain ⟨g1, g2, g3⟩ := headN_get h.ok hr
  obtain ⟨j0, j1⟩ := of_decide_eq_true hr
  obtain ⟨k1, _, _, ks, kb⟩ := getE_ok hg
  have hht := h.ok.2.2.2.2 _ (List.mem_of_getElem? g1)
  have hx0 := slX_get h.ok.2.1.1 t
  have hxo := slX_ok h.ok.2.1 t
  have hst := h.stands _ _ hx0
  have hpl := h.place _ (List.mem_of_getElem? hx0)
  have hr1 := h.ok.2.1.2.2.1
  have hr2 := h.ok.2.1.2.2.2.1
  have hc := h.ok.2.2.1
  have hL := h.ok.2.1.2.1
  have hL1 := h.ok.2.1.1
  unfold getS at hok ⊢
  rw [if_pos hg] at hok ⊢
  generalize slX R.L t = x at *
  obtain ⟨o1, o2, o3, o4⟩ := hxo
  have ev := everyN_pos hr2
  have hle := hasBit_le o3 kb
  have hjn : j.toNat < R.rd := by omega
  have hhead : R.h8.getD j.toNat 0 = headN R j := rfl
  rw [placeB_iff] at hpl
  have hpl : passB R t x.l = true := by
   rcases hpl with ⟨_, _, h3⟩ | ⟨h1, _⟩
   ·rwa [show x.s / 2 = t by omega] at h3
   ·omega
  rw [passB_iff] at hpl
  obtain ⟨n, hn⟩ : ∃ n : Nat, x.l = n := ⟨x.l.toNat, by omega⟩
  have hsub := sub_bits n (by omega) j.toNat (by omega) (by rw [← hn]; exact kb)
  rw [← hn] at hsub
  have hpass : ∀ i, i < R.rd → hasBit (x.l - 2 ^ j.toNat) i = true ∨ t < R.h8.getD i 0 := fun i hi => by
   by_cases e : i = j.toNat
   ·subst e; right; rw [hhead]; exact hth
   ·rw [hsub i (by omega) e]; exact hpl i hi
  refine ⟨hok, h.room, h.rest, fun i y hy => ?_, fun y hy => ?_⟩
  ·simp only at hy ⊢
   rw [List.length_set]
   rw [List.getElem?_set] at hy
   split at hy
   ·rename_i hi
    split at hy
    ·injection hy with hy
     subst hy
     unfold gotX standsB
     split
     ·simp only
      refine decide_eq_true ⟨by omega, ?_, ?_⟩
      ·rw [show 2 * (t + R.L.length) / 2 = t + R.L.length by omega, Nat.add_mod_right]; exact hi
      ·rw [if_pos (by omega)]; exact ⟨trivial, trivial⟩
     ·simp only
      refine decide_eq_true ⟨by omega, ?_, ?_⟩
      ·rw [show x.s / 2 = t by omega]; exact hi
      ·rw [if_neg (by omega)]; exact ⟨by omega, by have : (0 : Int) < 2 ^ j.toNat := Int.pow_pos (by decide); omega⟩
    ·cases hy
   ·exact h.stands i y hy
  ·simp only at hy
   rcases mem_set_or hy with hy | rfl
   ·exact placeB_mono (h.place y hy) rfl rfl (Nat.le_refl _) (fun j => Nat.le_refl _)
   ·rw [placeB_iff]
    unfold gotX
    split
    ·rename_i hz
     right
     simp only
     refine ⟨by omega, .inr ?_⟩
     rw [passB_iff]
     intro i hi
     have hi : i < R.rd := hi
     have := hpass i hi
     rw [hz, zero_bit i (by omega)] at this
     rcases this with h | h
     ·exact absurd h (by decide)
     ·right
      rw [show 2 * (t + R.L.length) / 2 - R.cap = t by omega]; exact h
    ·left
     simp only
     refine ⟨by omega, by omega, ?_⟩
     rw [passB_iff, show x.s / 2 = t by omega]
     exact hpass
 ·exact h
theorem reqA_kd {l : List In} {y : Th} (h8 : (reqA l y).kd = 1 ∨ (reqA l y).kd = 2) : y.st = 0 ∧ y.at_ ≠ (l.length : Int) ∧ y.ph ≠ 1 ∧ y.ph ≠ 2 ∧ (atT l y).op = 17 + (reqA l y).kd ∧ (reqA l y).rg = (atT l y).c := by
 by_cases hs : y.st = 0
 case neg => rw [reqA_st hs] at h8; simp [noneA] at h8
 by_cases ha : y.at_ = (l.length : Int)
 ·rw [reqA_end hs ha] at h8; simp [noneA] at h8
 have hr := reqA_in (i := atT l y) hs ha rfl
 by_cases h1 : y.ph = 1
 ·rw [if_pos h1] at hr; rw [hr] at h8; simp at h8
 rw [if_neg h1] at hr
 by_cases h2 : y.ph = 2
 ·rw [if_pos h2] at hr; rw [hr] at h8; simp at h8
 rw [if_neg h2] at hr
 by_cases hp : (decide (1 ≤ (atT l y).op) && decide ((atT l y).op ≤ 17)) = true
 ·rw [if_pos hp] at hr; rw [hr] at h8; simp [noneA] at h8
 rw [if_neg hp] at hr
 refine ⟨hs, ha, h1, h2, ?_⟩
 unfold visA at hr
 by_cases o18 : (atT l y).op = 18
 ·rw [if_pos o18] at hr
  rw [hr]; simp [o18]
 rw [if_neg o18] at hr
 by_cases o19 : (atT l y).op = 19
 ·rw [if_pos o19] at hr
  rw [hr]; simp [o19]
 rw [if_neg o19] at hr
 exfalso
 rw [hr] at h8
 revert h8
 split
 ·simp
 split
 ·simp [noneA]
 split
 ·simp [noneA]
 split
 ·simp [noneA]
 split
 ·simp
 ·simp [noneA]
theorem ph_nx {l : List In} {x : Th} (hr : thB l x = true) : phB l (nxT l x) = true := by
 have hp := (thB_parts hr).2.2
 by_cases hh : x.st = 0 ∧ x.ph = 0
 ·obtain ⟨q1, q2, q3, q4, q5⟩ := nx_rest (l := l) (x := x)
  unfold phB at hp ⊢
  rw [if_pos hh.2] at hp
  rw [if_pos (by rw [q1]; exact hh.2), q2, q4]
  exact hp
 ·rw [nxT_not hh]; exact hp
theorem reqA_ph0 {l : List In} {y : Th} (hp : phB l y = true) (h : (reqA l y).kd = 8 ∨ (reqA l y).kd = 9) : y.ph = 0 := by
 by_cases h1 : y.ph = 1
 ·obtain ⟨a1, a2, _⟩ := hdB_parts (phB_1 hp h1)
  have hr := reqA_in (i := atT l y) a1 (by omega) rfl
  rw [if_pos h1] at hr
  rw [hr] at h; simp at h
 by_cases h2 : y.ph = 2
 ·obtain ⟨a1, a2, _⟩ := hdB_parts (phB_2 hp h2)
  have hr := reqA_in (i := atT l y) a1 (by omega) rfl
  rw [if_neg h1, if_pos h2] at hr
  rw [hr] at h; simp at h
 by_cases h0 : y.ph = 0
 ·exact h0
 ·unfold phB at hp
  rw [if_neg h0, if_neg h1, if_neg h2] at hp
  cases hp
theorem ph0_zero {l : List In} {y : Th} (hp : phB l y = true) (h0 : y.ph = 0) : y.rg = 0 ∧ y.tk = 0 := by
 unfold phB at hp
 rw [if_pos h0, Bool.and_eq_true, beq_iff_eq, beq_iff_eq] at hp
 exact hp
theorem right_tk {e : Ev} (h : rightE e = true) (hk : ticketB e.kd = true) : e.tk < 4611686018427387904 := by
 unfold rightE at h
 simp only [Bool.and_eq_true] at h
 have := h.2.2.2.2.1
 rw [if_pos hk] at this
 exact of_decide_eq_true this
theorem thB_mk {l : List In} {z : Th} (hc : codeB l = true) (h1 : 0 ≤ z.at_ ∧ z.at_ ≤ (l.length : Int) ∧ 0 ≤ z.st ∧ z.st ≤ 2) (hp : phB l z = true) : thB l z = true := by
 unfold thB inTh
 rw [hc, hp, decide_eq_true h1]; rfl
theorem hdB_mk {l : List In} {z : Th} {op : Int} (h1 : z.st = 0) (h2 : z.at_ < (l.length : Int)) (h3 : (atT l z).op = op) (h4 : (atT l z).c = z.rg) (h5 : z.tk < 4611686018427387904) : hdB l z op = true := by
 unfold hdB
 simp only [Bool.and_eq_true, beq_iff_eq, decide_eq_true_eq]
 exact ⟨h1, h2, h3, h4, h5⟩
theorem thB_beh {l : List In} {x : Th} {e : Ev} {v : Nat} (hr : thB l x = true) (hx : thOk x) (hok : ∀ i ∈ l, inOk i) (he : rightE e = true) (hf : fitB (reqA l (nxT l x)) e = true) : thB l (behT (atT l (nxT l x)) (nxT l x) e v) = true := by
 obtain ⟨hc, hin, _⟩ := thB_parts hr
 obtain ⟨i0, i1, _⟩ := (nxT_facts hr hx hok).1
 have hp := ph_nx hr
 have hst : 0 ≤ (nxT l x).st ∧ (nxT l x).st ≤ 2 := by rw [(nx_rest (l := l) (x := x)).2.2.1]; exact ⟨hin.2.2.1, hin.2.2.2⟩
 have hkk := right_kind he
 generalize nxT l x = y at *
 unfold behT
 by_cases k1 : e.kd = 1
 ·rw [if_pos k1]
  unfold fitB at hf
  rw [if_pos k1, Bool.and_eq_true, beq_iff_eq, beq_iff_eq] at hf
  obtain ⟨a1, a2, a3, a4, a5, a6⟩ := reqA_kd (.inl hf.1)
  refine thB_mk hc ⟨i0, i1, by show (0:Int) ≤ y.st; omega, by show y.st ≤ 2; omega⟩ ?_
  unfold phB
  rw [if_neg (by show ¬ (1:Int) = 0; omega), if_pos rfl]
  exact hdB_mk a1 (by show y.at_ < _; omega) (by show (atT l y).op = 18; rw [a5, hf.1]; rfl) (by show (atT l y).c = e.rg; rw [← a6]; exact hf.2) (right_tk he (by rw [k1]; decide))
 rw [if_neg k1]
 by_cases k3 : e.kd = 3
 ·rw [if_pos k3]
  unfold fitB at hf
  rw [if_neg k1, if_pos k3, Bool.and_eq_true, beq_iff_eq, beq_iff_eq] at hf
  obtain ⟨a1, a2, a3, a4, a5, a6⟩ := reqA_kd (.inr hf.1)
  refine thB_mk hc ⟨i0, i1, by show (0:Int) ≤ y.st; omega, by show y.st ≤ 2; omega⟩ ?_
  unfold phB
  rw [if_neg (by show ¬ (2:Int) = 0; omega), if_neg (by show ¬ (2:Int) = 1; omega), if_pos rfl]
  exact hdB_mk a1 (by show y.at_ < _; omega) (by show (atT l y).op = 19; rw [a5, hf.1]; rfl) (by show (atT l y).c = e.rg; rw [← a6]; exact hf.2) (right_tk he (by rw [k3]; decide))
 rw [if_neg k3]
 by_cases k14 : e.kd = 14
 ·rw [if_pos k14]
  have h8 : (reqA l y).kd = 8 := by
   have h := hf
   simp [fitB, k14] at h
   exact h
  have p0 := reqA_ph0 hp (.inl h8)
  obtain ⟨z1, z2⟩ := ph0_zero hp p0
  refine thB_mk hc ⟨i0, i1, by show (0:Int) ≤ 1; omega, by show (1:Int) ≤ 2; omega⟩ ?_
  unfold phB
  rw [if_pos (show y.ph = 0 from p0)]
  show ((y.rg == 0) && (y.tk == 0)) = true
  rw [z1, z2]; rfl
 rw [if_neg k14]
 by_cases k15 : e.kd = 15
 ·rw [if_pos k15]
  have h8 : (reqA l y).kd = 9 := by
   have h := hf
   simp [fitB, k15] at h
   exact h
  have p0 := reqA_ph0 hp (.inr h8)
  obtain ⟨z1, z2⟩ := ph0_zero hp p0
  refine thB_mk hc ⟨i0, i1, by show (0:Int) ≤ 2; omega, by show (2:Int) ≤ 2; omega⟩ ?_
  unfold phB
  rw [if_pos (show y.ph = 0 from p0)]
  show ((y.rg == 0) && (y.tk == 0)) = true
  rw [z1, z2]; rfl
 rw [if_neg k15]
 obtain ⟨s0, ne⟩ := fit_at hf k14
 by_cases k12 : e.kd = 12
 ·rw [if_pos k12]
  exact thB_mk hc ⟨by show 0 ≤ y.at_ + 1; omega, by show y.at_ + 1 ≤ _; omega, by show (0:Int) ≤ y.st; omega, by show y.st ≤ 2; omega⟩ rfl
 ·rw [if_neg k12]
  obtain ⟨q1, q2⟩ := regT_at (i := atT l y) (y := y) (e := e) (v := v)
  exact thB_mk hc ⟨by show 0 ≤ (regT _ y e v).at_ + 1; rw [q1]; omega, by show (regT _ y e v).at_ + 1 ≤ _; rw [q1]; omega, by show (0:Int) ≤ (regT _ y e v).st; rw [q2]; omega, by show (regT _ y e v).st ≤ 2; rw [q2]; omega⟩ rfl
theorem claim_rest17 (R : Rg) : (claimR R).cap = R.cap ∧ (claimR R).rd = R.rd ∧ (claimR R).cl = R.cl ∧ R.tail ≤ (claimR R).tail ∧ (claimR R).h8 = R.h8 := by
 unfold claimR
 split
 ·exact ⟨rfl, rfl, rfl, Nat.le_succ _, rfl⟩
 ·exact ⟨rfl, rfl, rfl, Nat.le_refl _, rfl⟩
theorem pub_rest17 (R : Rg) (t v : Nat) : (pubR R t v).cap = R.cap ∧ (pubR R t v).rd = R.rd ∧ (pubR R t v).cl = R.cl ∧ R.tail ≤ (pubR R t v).tail ∧ (pubR R t v).h8 = R.h8 := by
 unfold pubR
 split
 ·exact ⟨rfl, rfl, rfl, Nat.le_refl _, rfl⟩
 ·exact ⟨rfl, rfl, rfl, Nat.le_refl _, rfl⟩
theorem rel_rest17 (R : Rg) (j : Int) (t : Nat) : (relR R j t).cap = R.cap ∧ (relR R j t).rd = R.rd ∧ (relR R j t).cl = R.cl ∧ R.tail ≤ (relR R j t).tail ∧ (relR R j t).h8 = R.h8 := by
 unfold relR
 split
 ·exact ⟨rfl, rfl, rfl, Nat.le_refl _, rfl⟩
 ·exact ⟨rfl, rfl, rfl, Nat.le_refl _, rfl⟩
theorem take_rest17 (R : Rg) (j : Int) : (takeR R j).cap = R.cap ∧ (takeR R j).rd = R.rd ∧ (takeR R j).cl = R.cl ∧ R.tail ≤ (takeR R j).tail ∧ ∀ i : Int, headN R i ≤ headN (takeR R j) i := by
 unfold takeR
 split
 ·refine ⟨rfl, rfl, rfl, Nat.le_refl _, fun i => ?_⟩
  show R.h8.getD i.toNat 0 ≤ (R.h8.set j.toNat (headN R j + 1)).getD i.toNat 0
  rw [List.getD_eq_getElem?_getD, List.getD_eq_getElem?_getD, List.getElem?_set]
  by_cases e : j.toNat = i.toNat
  ·rw [if_pos e]
   by_cases hl : j.toNat < R.h8.length
   ·rw [if_pos hl, ← e, List.getElem?_eq_getElem hl]
    show R.h8[j.toNat] ≤ R.h8.getD j.toNat 0 + 1
    rw [List.getD_eq_getElem?_getD, List.getElem?_eq_getElem hl]
    exact Nat.le_succ _
   ·rw [if_neg hl, ← e, List.getElem?_eq_none (by omega)]
    exact Nat.le_refl _
  ·rw [if_neg e]; exact Nat.le_refl _
 ·exact ⟨rfl, rfl, rfl, Nat.le_refl _, fun i => Nat.le_refl _⟩
theorem headV_of {R R' : Rg} (hr : R'.rd = R.rd) (h : ∀ i : Int, headN R i ≤ headN R' i) (i : Int) : headV R i ≤ headV R' i := by
 have e : readsB R' i = readsB R i := by unfold readsB; rw [hr]
 unfold headV
 rw [e]
 split
 ·exact h i
 ·exact Nat.le_refl _
theorem step_rest17 (e : Ev) (a : Ak) (x : La) : (stepLa e a x).R.cap = x.R.cap ∧ (stepLa e a x).R.rd = x.R.rd ∧ (stepLa e a x).R.cl = x.R.cl ∧ x.R.tail ≤ (stepLa e a x).R.tail ∧ ∀ i : Int, headV x.R i ≤ headV (stepLa e a x).R i := by
 have eqh : ∀ R' : Rg, R'.rd = x.R.rd → R'.h8 = x.R.h8 → ∀ i : Int, headV x.R i ≤ headV R' i := fun R' h1 h2 => headV_of h1 (fun i => by unfold headN; rw [h2]; exact Nat.le_refl _)
 unfold stepLa
 by_cases k1 : e.kd = 1
 ·rw [if_pos k1]
  obtain ⟨a1, a2, a3, a4, a5⟩ := claim_rest17 x.R
  exact ⟨a1, a2, a3, a4, eqh _ a2 a5⟩
 by_cases k2 : e.kd = 2
 ·rw [if_neg k1, if_pos k2]
  obtain ⟨a1, a2, a3, a4, a5⟩ := pub_rest17 x.R e.tk a.vl
  exact ⟨a1, a2, a3, a4, eqh _ a2 a5⟩
 by_cases k3 : e.kd = 3
 ·rw [if_neg k1, if_neg k2, if_pos k3]
  obtain ⟨a1, a2, a3, a4, a5⟩ := take_rest17 x.R a.rd
  exact ⟨a1, a2, a3, a4, headV_of a2 a5⟩
 by_cases k4 : e.kd = 4
 ·rw [if_neg k1, if_neg k2, if_neg k3, if_pos k4]
  obtain ⟨a1, a2, a3, a4, a5⟩ := rel_rest17 x.R a.rd e.tk
  exact ⟨a1, a2, a3, a4, eqh _ a2 a5⟩
 rw [if_neg k1, if_neg k2, if_neg k3, if_neg k4]
 split
 ·exact ⟨rfl, rfl, rfl, Nat.le_refl _, fun _ => Nat.le_refl _⟩
 ·exact ⟨rfl, rfl, rfl, Nat.le_refl _, fun _ => Nat.le_refl _⟩
theorem step_inv17 {e : Ev} {a : Ak} {x : La} (h : Inv x.R) (ht : x.R.tail ≤ 1000000) (hv : a.vl ≤ 18446744073709551615) : Inv (stepLa e a x).R := by
 unfold stepLa
 split
 ·exact h.claim (by omega)
 split
 ·exact h.pub _ _ (by omega)
 split
 ·exact h.take _
 split
 ·exact h.rel _ _ (by omega)
 split
 ·exact h
 ·exact h
def HeldT (f : Fb) (l : List In) (x : Th) : Prop := (x.ph = 1 → x.tk < (lnN f x.rg).R.tail) ∧ (x.ph = 2 → x.tk < headV (lnN f x.rg).R (wrap64 ((atT l x).k : Int)))
structure FInv (f : Fb) : Prop where
 ln : ∀ (j : Nat) (r : Ri), f.p.rs[j]? = some r → Inv (lnN f (j : Int)).R ∧ (lnN f (j : Int)).R.cl = false ∧ (lnN f (j : Int)).R.cap = r.c.toNat ∧ (lnN f (j : Int)).R.rd = r.r.toNat
 th : ∀ t, t < f.p.ts.length → thB (codeN f t) (thrN f t) = true ∧ HeldT f (codeN f t) (thrN f t)
theorem lnN_nat (f : Fb) (i : Int) : lnN f i = lnN f ((i.toNat : Nat) : Int) := by unfold lnN; rw [Int.toNat_natCast]
theorem perf_mono {f : Fb} {e : Ev} (ok : FbOk f) (hp : RgIn f.p) (hn : namesF f e = 0) (hm : matF f e = true) (i : Int) : (lnN f i).R.tail ≤ (lnN (perfF f e) i).R.tail ∧ ∀ j : Int, headV (lnN f i).R j ≤ headV (lnN (perfF f e) i).R j := by
 rw [lnN_nat f i, lnN_nat (perfF f e) i, perf_lane ok hp hn hm]
 split
 ·obtain ⟨_, _, _, h1, h2⟩ := step_rest17 e (askF f e.th.toNat) (lnN f ((i.toNat : Nat) : Int))
  exact ⟨h1, h2⟩
 ·exact ⟨Nat.le_refl _, fun _ => Nat.le_refl _⟩
theorem HeldT.more {f g : Fb} {l : List In} {x : Th} (h : HeldT f l x) (hm : ∀ i : Int, (lnN f i).R.tail ≤ (lnN g i).R.tail ∧ ∀ j : Int, headV (lnN f i).R j ≤ headV (lnN g i).R j) : HeldT g l x :=
 ⟨fun e => Nat.lt_of_lt_of_le (h.1 e) (hm _).1, fun e => Nat.lt_of_lt_of_le (h.2 e) ((hm _).2 _)⟩
section
variable {f : Fb} {e : Ev}
theorem can_of (ha : alwB f e = true) : canF f e (askF f e.th.toNat) = true := by
 unfold alwB at ha
 rw [Bool.and_eq_true] at ha
 exact ha.2
theorem ask_is (hm : matF f e = true) : askF f e.th.toNat = reqA (codeN f e.th.toNat) (nxT (codeN f e.th.toNat) (thrN f e.th.toNat)) := by
 unfold askF nxZ
 rw [if_pos (mat_parts hm).1]
theorem beh_held (ok : FbOk f) (hp : RgIn f.p) (h : FInv f) (hn : namesF f e = 0) (ha : alwB f e = true) (hm : matF f e = true) (v : Nat) :
  HeldT (perfF f e) (codeN f e.th.toNat) { (behT (atT (codeN f e.th.toNat) (nxT (codeN f e.th.toNat) (thrN f e.th.toNat))) (nxT (codeN f e.th.toNat) (thrN f e.th.toNat)) e v) with sn := [] } := by
 obtain ⟨_, h0, h1⟩ := names_has hn
 obtain ⟨m1, _, m3⟩ := mat_parts hm
 obtain ⟨_, _, k3, _, k5⟩ := thr_get ok (t := e.th.toNat) (by omega)
 have hheld := (h.th e.th.toNat (by omega)).2
 have hcan := can_of ha
 rw [ask_is hm] at hcan
 have hper := perf_lane ok hp hn hm
 rw [ask_is hm] at hper
 have hmono := perf_mono ok hp hn hm
 have hlane : onLane e.kd → ∃ (j : Nat) (r : Ri), e.rg = (j : Int) ∧ f.p.rs[j]? = some r := fun hk => by
  obtain ⟨a, b⟩ := mat_rg ok hp hn hm hk
  exact ⟨e.rg.toNat, _, by omega, List.getElem?_eq_getElem (by omega)⟩
 generalize codeN f e.th.toNat = l at *
 generalize thrN f e.th.toNat = x at *
 have hst : ∀ st : Int, HeldT (perfF f e) l { ({ (nxT l x) with st := st } : Th) with sn := [] } := fun st => by
  by_cases hx : x.st = 0 ∧ x.ph = 0
  ·have hph : (nxT l x).ph = 0 := by rw [nxT_run hx.1 hx.2]; exact (goT_rest l 256 x).1.trans hx.2
   exact ⟨fun (q : (nxT l x).ph = 1) => by omega, fun (q : (nxT l x).ph = 2) => by omega⟩
  ·rw [nxT_not hx]
   have := hheld.more hmono
   exact ⟨this.1, this.2⟩
 generalize hy : nxT l x = y at *
 unfold behT
 by_cases c1 : e.kd = 1
 ·rw [if_pos c1]
  obtain ⟨j, r, hj, hr⟩ := hlane (.inl c1)
  refine ⟨fun _ => ?_, fun (q : (1 : Int) = 2) => by omega⟩
  show e.tk < (lnN (perfF f e) e.rg).R.tail
  unfold canF fedF at hcan
  rw [if_pos c1, if_pos c1] at hcan
  simp only [Bool.and_eq_true, Bool.not_eq_true', decide_eq_true_eq] at hcan
  obtain ⟨_, q2, q3⟩ := hcan
  have q4 := hper j
  rw [hj] at q2 q3 ⊢
  rw [q4, hj, Int.toNat_natCast, if_pos rfl]
  unfold stepLa
  rw [if_pos c1]
  have q5 := (h.ln j r hr).2.1
  unfold claimR claimE
  rw [q5, q2]
  show e.tk < (lnN f (j : Int)).R.tail + 1
  omega
 rw [if_neg c1]
 by_cases c3 : e.kd = 3
 ·rw [if_pos c3]
  obtain ⟨j, r, hj, hr⟩ := hlane (.inr (.inr (.inl c3)))
  refine ⟨fun (q : (2 : Int) = 1) => by omega, fun _ => ?_⟩
  show e.tk < headV (lnN (perfF f e) e.rg).R (wrap64 ((atT l y).k : Int))
  have hk2 : (reqA l y).kd = 2 := by
   unfold fitB at m3
   rw [if_neg c1, if_pos c3, Bool.and_eq_true, beq_iff_eq] at m3
   exact m3.1
  obtain ⟨d1, d2, d3, d4, d5, _⟩ := reqA_kd (.inr hk2)
  have hrd : (reqA l y).rd = wrap64 ((atT l y).k : Int) := by
   have hop : (atT l y).op = 19 := by rw [d5, hk2]; rfl
   have hq := reqA_in (i := atT l y) d1 d2 rfl
   rw [if_neg d3, if_neg d4, hop] at hq
   rw [hq]
   unfold visA
   rw [hop]
   rfl
  unfold canF fedF at hcan
  rw [if_neg c1, if_neg (by omega), if_neg (by omega), if_neg (by omega), if_neg (by omega), if_neg c1, if_neg (by omega), if_pos c3] at hcan
  simp only [Bool.and_eq_true, Bool.not_eq_true', decide_eq_true_eq] at hcan
  obtain ⟨q2, q3⟩ := hcan
  have q4 := hper j
  rw [hj] at q2 q3 ⊢
  rw [q4, hj, Int.toNat_natCast, if_pos rfl]
  unfold stepLa
  rw [if_neg c1, if_neg (by omega), if_pos c3]
  have hR := (h.ln j r hr).1.ok
  rw [hrd] at q2 q3 ⊢
  generalize (lnN f (j : Int)).R = R at *
  generalize wrap64 ((atT l y).k : Int) = jj at *
  unfold emptyB at q2
  rw [Bool.or_eq_false_iff, decide_eq_false_iff_not, Bool.not_eq_false'] at q2
  obtain ⟨q5, q6⟩ := q2
  unfold headV at q3
  rw [if_pos q5] at q3
  obtain ⟨g1, _, _⟩ := headN_get hR q5
  have ht : takeE R jj = 0 := by unfold takeE; rw [q5, if_neg (by decide), if_neg q6]
  have hl := (List.getElem?_eq_some_iff.1 g1).1
  show e.tk < headV (takeR R jj) jj
  unfold takeR
  rw [if_pos ht]
  unfold headV
  rw [if_pos (show readsB { R with h8 := R.h8.set jj.toNat (headN R jj + 1) } jj = true from q5)]
  show e.tk < (R.h8.set jj.toNat (headN R jj + 1)).getD jj.toNat 0
  rw [List.getD_eq_getElem?_getD, List.getElem?_set_self hl]
  show e.tk < headN R jj + 1
  omega
 rw [if_neg c3]
 by_cases c14 : e.kd = 14
 ·rw [if_pos c14]; exact hst 1
 rw [if_neg c14]
 by_cases c15 : e.kd = 15
 ·rw [if_pos c15]; exact hst 2
 rw [if_neg c15]
 split
 ·exact ⟨fun (q : (0 : Int) = 1) => by omega, fun (q : (0 : Int) = 2) => by omega⟩
 ·exact ⟨fun (q : (0 : Int) = 1) => by omega, fun (q : (0 : Int) = 2) => by omega⟩
theorem FInv.perf {k : Nat} (g : FbGood f k) (hk : k ≤ 1000000) (h : FInv f) (hn : namesF f e = 0) (ha : alwB f e = true) (hm : matF f e = true) : FInv (perfF f e) := by
 obtain ⟨_, h0, h1⟩ := names_has hn
 have hmono := perf_mono g.ok g.rg hn hm
 refine ⟨fun j r hr => ?_, fun t ht => ?_⟩
 ·rw [perfF_p] at hr
  obtain ⟨a1, a2, a3, a4⟩ := h.ln j r hr
  rw [perf_lane g.ok g.rg hn hm]
  split
  ·obtain ⟨b1, b2, b3, _, _⟩ := step_rest17 e (askF f e.th.toNat) (lnN f (j : Int))
   refine ⟨step_inv17 a1 (Nat.le_trans (lnN_tail g.tl _) hk) (ask_vl g.ok _), by rw [b3]; exact a2, by rw [b1]; exact a3, by rw [b2]; exact a4⟩
  ·exact ⟨a1, a2, a3, a4⟩
 ·rw [perfF_p] at ht
  have hc : codeN (perfF f e) t = codeN f t := by unfold codeN; rw [perfF_p]
  have hth : (perfF f e).th = f.th.set e.th.toNat { (doZ (codeN f e.th.toNat) (thrN f e.th.toNat) e (movF f e (askF f e.th.toNat)).2).1 with sn := [] } := by
   show (movF f e (askF f e.th.toNat)).1.th.set _ _ = _
   rw [(movF_rest f e (askF f e.th.toNat)).2.1]
  rw [hc]
  by_cases hu : t = e.th.toNat
  ·subst hu
   have e1 : thrN (perfF f e) e.th.toNat = { (doZ (codeN f e.th.toNat) (thrN f e.th.toNat) e (movF f e (askF f e.th.toNat)).2).1 with sn := [] } := by
    unfold thrN
    rw [hth, List.getD_eq_getElem?_getD, List.getElem?_set_self (by rw [g.ok.tl]; omega)]; rfl
   obtain ⟨m1, m2, m3⟩ := mat_parts hm
   obtain ⟨_, _, k3, _, k5⟩ := thr_get g.ok (t := e.th.toNat) (by omega)
   rw [e1, mat_doZ _ hm]
   have hb := thB_beh (v := (movF f e (askF f e.th.toNat)).2) m1 k3 k5 m2 m3
   exact ⟨hb, beh_held g.ok g.rg h hn ha hm _⟩
  ·have e1 : thrN (perfF f e) t = thrN f t := by
    unfold thrN
    rw [hth, List.getD_eq_getElem?_getD, List.getElem?_set_ne (Ne.symm hu), ← List.getD_eq_getElem?_getD]
   rw [e1]
   exact ⟨(h.th t ht).1, (h.th t ht).2.more hmono⟩
theorem FInv.did {k : Nat} (g : FbGood f k) (hk : k ≤ 1000000) (h : FInv f) : FInv (doF f e) := by
 unfold doF
 by_cases hd : fdoE f e = 0
 ·rw [if_pos hd]
  obtain ⟨hn, ha, hm⟩ := fdo_parts hd
  exact h.perf g hk hn ha hm
 ·rw [if_neg hd]; exact h
end
theorem codeB_right {p : Pg} (hr : rightP p = true) {l : List In} (hl : l ∈ p.ts) : codeB l = true := by
 obtain ⟨_, _, h⟩ := rightP_all hr
 obtain ⟨h1, h2, h3⟩ := h l hl
 refine codeB_ok (by omega) (fun x hx => ?_)
 obtain ⟨q1, q2⟩ := instrE_zero (h3 x hx)
 unfold cdX jumpsB
 rw [q1, Bool.true_and, Bool.not_eq_true', Bool.and_eq_false_iff, Bool.and_eq_false_iff, decide_eq_false_iff_not, decide_eq_false_iff_not, decide_eq_false_iff_not]
 by_cases a : 15 ≤ x.op
 ·by_cases b : x.op ≤ 17
  ·exact .inr (by have := q2 a b; omega)
  ·exact .inl (.inr b)
 ·exact .inl (.inl a)
theorem FInv.new {p : Pg} (hr : rightP p = true) : FInv (newF p) := by
 obtain ⟨_, hrs, _⟩ := rightP_all hr
 refine ⟨fun j r hj => ?_, fun t ht => ?_⟩
 ·have hj : p.rs[j]? = some r := hj
  have e : lnN (newF p) (j : Int) = laneO r := by
   show (p.rs.map laneO).getD _ default = _
   rw [Int.toNat_natCast, List.getD_eq_getElem?_getD, List.getElem?_map, hj]; rfl
  rw [e]
  have h := hrs r (List.mem_of_getElem? hj)
  have h := of_decide_eq_true h
  exact ⟨Inv.new (by omega) (by omega) (by omega) (by omega), rfl, rfl, rfl⟩
 ·have ht : t < p.ts.length := ht
  have e : thrN (newF p) t = thO := by
   show (List.replicate p.ts.length thO).getD t _ = _
   rw [List.getD_eq_getElem?_getD, List.getElem?_replicate, if_pos ht]; rfl
  have hm : codeN (newF p) t ∈ p.ts := by
   show p.ts.getD t _ ∈ p.ts
   rw [List.getD_eq_getElem?_getD, List.getElem?_eq_getElem ht]
   exact List.getElem_mem ht
  rw [e]
  refine ⟨thB_mk (codeB_right hr hm) ⟨Int.le_refl _, by show (0 : Int) ≤ _; omega, Int.le_refl _, by decide⟩ rfl, fun (q : (0 : Int) = 1) => by omega, fun (q : (0 : Int) = 2) => by omega⟩
section
variable {f : Fb} {k : Nat}
theorem stF_th (f : Fb) (t : Nat) (ht : t < f.p.ts.length) : (stF f).th[t]? = some (thI f t) := by
 show ((List.range f.p.ts.length).map (thI f))[t]? = _
 rw [List.getElem?_map, List.getElem?_range ht]; rfl
theorem stF_rg (f : Fb) (j : Nat) (hj : j < f.p.rs.length) : (stF f).rg[j]? = some (rsOf (lnN f (j : Int))) := by
 show ((List.range f.p.rs.length).map fun (i : Nat) => rsOf (lnN f (i : Int)))[j]? = _
 rw [List.getElem?_map, List.getElem?_range hj]; rfl
theorem ln_get (ok : FbOk f) {j : Nat} (hj : j < f.p.rs.length) : f.ln[j]? = some (lnN f (j : Int)) := by
 unfold lnN
 rw [Int.toNat_natCast, List.getD_eq_getElem?_getD, List.getElem?_eq_getElem (by rw [ok.ll]; exact hj)]; rfl
theorem ldL_stF (g : FbGood f k) (hk : k ≤ 1000000) (h : FInv f) : ldL f.p (stF f) = f.ln := by
 refine List.ext_getElem? fun j => ?_
 by_cases hj : j < f.p.rs.length
 ·have e := List.getElem?_eq_getElem hj
  rw [ldL_get e (stF_rg f j hj), ln_get g.ok hj]
  obtain ⟨a1, a2, a3, a4⟩ := h.ln j _ e
  have h2 := (a1.loads (by have := lnN_tail g.tl (j : Int); omega)).2
  rw [a2, a3, a4] at h2
  show some (La.mk (loadR _ _ (lnN f (j : Int)).R.tail false ((lnN f (j : Int)).R.h8.take (lnN f (j : Int)).R.rd) (lnN f (j : Int)).R.L) (lnN f (j : Int)).cl) = _
  rw [a4, h2]
 ·rw [List.getElem?_eq_none (by rw [ldL_length (rgsF_length f _)]; omega), List.getElem?_eq_none (by rw [g.ok.ll]; omega)]
theorem noSn_thI (ok : FbOk f) {t : Nat} (ht : t < f.p.ts.length) : noSn (thI f t) = thrN f t := by
 have h := (thr_get ok ht).2.2.2.1
 show { thrN f t with sn := [] } = thrN f t
 rw [← h]
theorem ldF_stF (g : FbGood f k) (hk : k ≤ 1000000) (h : FInv f) : ldF f.p (stF f) = f := by
 have h1 : (stF f).th.map noSn = f.th := by
  refine List.ext_getElem? fun t => ?_
  rw [List.getElem?_map]
  by_cases ht : t < f.p.ts.length
  ·rw [stF_th f t ht, (thr_get g.ok ht).1]
   show some (noSn (thI f t)) = _
   rw [noSn_thI g.ok ht]
  ·rw [List.getElem?_eq_none (by show (thsF f f.p.ts.length).length ≤ t; rw [thsF_length]; omega), List.getElem?_eq_none (by rw [g.ok.tl]; omega)]; rfl
 have h2 : (stF f).th.map (·.sn) = f.sn := by
  refine List.ext_getElem? fun t => ?_
  rw [List.getElem?_map]
  by_cases ht : t < f.p.ts.length
  ·rw [stF_th f t ht]
   show some (f.sn.getD t []) = _
   rw [List.getD_eq_getElem?_getD, List.getElem?_eq_getElem (by rw [g.ok.sl]; omega)]; rfl
  ·rw [List.getElem?_eq_none (by show (thsF f f.p.ts.length).length ≤ t; rw [thsF_length]; omega), List.getElem?_eq_none (by rw [g.ok.sl]; omega)]; rfl
 unfold ldF
 rw [h1, h2, ldL_stF g hk h]
 rfl
theorem req10 {l : List In} {y : Th} (h : (reqA l y).kd = 10) : y.ph = 1 ∧ (reqA l y).rg = y.rg ∧ (reqA l y).tk = y.tk := by
 unfold reqA at h ⊢
 by_cases h0 : y.st ≠ 0
 ·rw [if_pos h0] at h; simp [noneA] at h
 rw [if_neg h0] at h ⊢
 by_cases h1 : y.at_ = (l.length : Int)
 ·rw [if_pos h1] at h; simp [noneA] at h
 rw [if_neg h1] at h ⊢
 by_cases h2 : y.ph = 1
 ·rw [if_pos h2]; exact ⟨h2, rfl, rfl⟩
 rw [if_neg h2] at h
 by_cases h3 : y.ph = 2
 ·rw [if_pos h3] at h; simp at h
 rw [if_neg h3] at h
 split at h
 ·simp [noneA] at h
 ·unfold visA at h
  repeat' split at h
  all_goals simp [noneA] at h
theorem req11 {l : List In} {y : Th} (h : (reqA l y).kd = 11) : y.ph = 2 ∧ (reqA l y).rg = y.rg ∧ (reqA l y).tk = y.tk ∧ (reqA l y).rd = wrap64 ((atT l y).k : Int) := by
 unfold reqA at h ⊢
 by_cases h0 : y.st ≠ 0
 ·rw [if_pos h0] at h; simp [noneA] at h
 rw [if_neg h0] at h ⊢
 by_cases h1 : y.at_ = (l.length : Int)
 ·rw [if_pos h1] at h; simp [noneA] at h
 rw [if_neg h1] at h ⊢
 by_cases h2 : y.ph = 1
 ·rw [if_pos h2] at h; simp at h
 rw [if_neg h2] at h ⊢
 by_cases h3 : y.ph = 2
 ·rw [if_pos h3]; exact ⟨h3, rfl, rfl, rfl⟩
 rw [if_neg h3] at h
 split at h
 ·simp [noneA] at h
 ·unfold visA at h
  repeat' split at h
  all_goals simp [noneA] at h
theorem ldOk_stF (g : FbGood f k) (hk : k ≤ 1000000) (h : FInv f) (hr : rightP f.p = true) : LdOk f.p (stF f) := by
 refine ⟨g.ok.pok, hr, thsF_length f _, rgsF_length f _, fun j r s hj hs => ?_, fun t l x hl hx => ?_, g.ok.nb⟩
 ·have hjl := (List.getElem?_eq_some_iff.1 hj).1
  rw [stF_rg f j hjl] at hs
  simp only [Option.some.injEq] at hs
  subst hs
  obtain ⟨a1, a2, a3, a4⟩ := h.ln j r hj
  have h2 := (a1.loads (by have := lnN_tail g.tl (j : Int); omega)).1
  rw [a2, a3] at h2
  refine ⟨?_, fun x hx => ?_⟩
  ·show loadsB r.c.toNat r.r.toNat (lnN f (j : Int)).R.tail false ((lnN f (j : Int)).R.h8.take (lnN f (j : Int)).R.rd) (lnN f (j : Int)).R.L = true
   rw [← a4]; exact h2
  ·obtain ⟨q1, q2, q3, q4⟩ := a1.ok.2.1.2.2.2.2 x hx
   have := (everyN_pos a1.ok.2.1.2.2.2.1).2
   exact ⟨q1, q2, by omega, by omega⟩
 ·have htl := (List.getElem?_eq_some_iff.1 hl).1
  rw [stF_th f t htl] at hx
  simp only [Option.some.injEq] at hx
  subst hx
  obtain ⟨_, c1, c2, c3, _⟩ := thr_get g.ok htl
  rw [hl] at c1
  simp only [Option.some.injEq] at c1
  subst c1
  obtain ⟨b1, b2⟩ := h.th t htl
  have e1 : askX (codeN f t) (thI f t) = reqA (codeN f t) (nxT (codeN f t) (thrN f t)) := by
   unfold askX
   rw [show ({ thI f t with sn := [] } : Th) = thrN f t from noSn_thI g.ok htl]
   unfold nxZ
   rw [if_pos b1]
  have e2 : ∀ i : Int, lnN (newL f.p (ldL f.p (stF f))) i = lnN f i := fun i => by
   rw [ldL_stF g hk h]; rfl
  have hnx : (nxT (codeN f t) (thrN f t)).ph ≠ 0 → nxT (codeN f t) (thrN f t) = thrN f t := fun hp => by
   by_cases h0 : (thrN f t).st = 0 ∧ (thrN f t).ph = 0
   ·rw [nxT_run h0.1 h0.2, (goT_rest _ 256 _).1] at hp
    exact absurd h0.2 hp
   ·exact nxT_not h0
  refine ⟨b1, ?_, ?_, ?_, ?_⟩
  ·obtain ⟨o1, o2, o3, o4, o5, o6, _⟩ := c2
   refine ⟨o1, o2, o3, o4, o5, o6, fun n hn => ?_⟩
   have hn : n ∈ f.sn.getD t [] := hn
   rw [List.getD_eq_getElem?_getD, List.getElem?_eq_getElem (by rw [g.ok.sl]; exact htl)] at hn
   exact g.ok.sb _ (List.getElem_mem _) n hn
  ·exact Nat.le_trans (sn_le g.sn t) hk
  ·rw [e1]
   unfold gaveB
   by_cases k10 : (reqA (codeN f t) (nxT (codeN f t) (thrN f t))).kd = 10
   ·rw [if_pos k10]
    obtain ⟨q1, q2, q3⟩ := req10 k10
    have hy := hnx (by omega)
    rw [hy] at q1 q2 q3
    rw [hy, e2, q2, q3]
    exact decide_eq_true (b2.1 q1)
   rw [if_neg k10]
   by_cases k11 : (reqA (codeN f t) (nxT (codeN f t) (thrN f t))).kd = 11
   ·rw [if_pos k11]
    obtain ⟨q1, q2, q3, q4⟩ := req11 k11
    have hy := hnx (by omega)
    rw [hy] at q1 q2 q3 q4
    rw [hy, e2, q2, q3, q4]
    exact decide_eq_true (b2.2 q1)
   ·rw [if_neg k11]
  ·rw [e1]
   intro hkd
   obtain ⟨i, hi, ho, hc⟩ := ask_rg b1 c2 (thr_get g.ok htl).2.2.2.2 (by rcases hkd with q | q; exact .inr (.inr (.inr (.inl q))); exact .inr (.inr (.inr (.inr q))))
   have := g.rg _ (List.mem_of_getElem? hl) i hi ho
   rw [hc] at this
   exact this
end
structure FsAt (w : World) (cp : Array Value) (F : Nat) (f : Fb) (k : Nat) (z : Fv) (q : World) : Prop where
 bel : Below w.heap.size w q
 box : Lies q w.heap.size 25 cp
 ff : FabAt q w.heap.size F f z
 fg : FbGood f k
structure TsAt (w : World) (cp : Array Value) (F G : Nat) (f g : Fb) (k j : Nat) (zf zg : Fv) (q : World) : Prop where
 bel : Below w.heap.size w q
 box : Lies q w.heap.size 25 cp
 tw : TwAt w.heap.size F G f g k j zf zg q
section
variable {w q q' : World} {cp : Array Value} {F G k j : Nat} {f g f' g' : Fb} {z zf zg : Fv} {E : Int} {r : Ending}
theorem FsAt.later (h : FsAt w cp F f k z q) (hb : Below q.heap.size q q') : FsAt w cp F f k z q' := ⟨h.bel.trans (hb.mono h.bel.size), h.box.below hb h.box.lt, h.ff.later hb, h.fg⟩
theorem FsAt.did (h : FsAt w cp F f k z q) (hp : DgPost q w.heap.size F z k E f' r q') : r = .returned (.int .i64 E) ∧ ∃ z', FsAt w cp F f' (k + 1) z' q' := by
 obtain ⟨h1, z', h2, h3, h4, h5⟩ := hp
 refine ⟨h1, z', h.bel.trans (h4.below h.bel.size (fun r hr hs => by have := (fb_types h.ff hs).1; omega)), h.box.kept h4 (fun hs => ?_), h2, h3⟩
 obtain ⟨_, e2, c2, h6, h7⟩ := fb_types h.ff hs
 rw [(h6.same h.box).1] at h7
 revert h7; decide
theorem TsAt.later (h : TsAt w cp F G f g k j zf zg q) (hb : Below q.heap.size q q') : TsAt w cp F G f g k j zf zg q' :=
 ⟨h.bel.trans (hb.mono h.bel.size), h.box.below hb h.box.lt, h.tw.later hb⟩
theorem TsAt.first (h : TsAt w cp F G f g k j zf zg q) (hp : DgPost q w.heap.size F zf k E f' r q') : r = .returned (.int .i64 E) ∧ (∀ b T cs, Lies q b T cs → ¬ FbTy T → Lies q' b T cs) ∧ ∃ z', TsAt w cp F G f' g (k + 1) j z' zg q' := by
 obtain ⟨h1, h2, h3, z', h4⟩ := h.tw.first hp
 exact ⟨h1, h3, z', h.bel.trans h2, h3 _ _ _ h.box (by decide), h4⟩
theorem TsAt.second (h : TsAt w cp F G f g k j zf zg q) (hp : DgPost q w.heap.size G zg j E g' r q') : r = .returned (.int .i64 E) ∧ (∀ b T cs, Lies q b T cs → ¬ FbTy T → Lies q' b T cs) ∧ ∃ z', TsAt w cp F G f g' k (j + 1) zf z' q' := by
 obtain ⟨h1, h2, h3, z', h4⟩ := h.tw.swap.first hp
 exact ⟨h1, h3, z', h.bel.trans h2, h3 _ _ _ h.box (by decide), h4.swap⟩
theorem fbLoadV {A Q : Option Addr} {c d B : Nat} {v : Value} (h : PgAt q A c Q d f.p) (g : FbGood f k) (hk : k ≤ 1000000) (hi : FInv f) (hr : rightP f.p = true) (hv : StV (stF f) B v q) :
  Calls Tryz.prog 28 #[.agg (pgC A c Q d f.p), v] q fun e w' => ∃ G z, e = .returned (.tuple #[.pointer (some ⟨G, 0, none⟩), .int .i64 0]) ∧ FabAt w' q.heap.size G f z ∧ Below q.heap.size q w' := by
 obtain ⟨At, ct, Ar, cr, rfl, h1, h2⟩ := hv
 have e1 : (stF f).th.length = f.p.ts.length := thsF_length f _
 have e2 : (stF f).rg.length = f.p.rs.length := rgsF_length f _
 rw [e1] at h1 ⊢
 rw [e2] at h2 ⊢
 refine (fbLoad f.p (stF f) A c Q d At ct Ar cr B q h (ldOk_stF g hk hi hr) h1 h2).mono ?_
 rintro e w' ⟨G, z, rfl, _, hf, hb⟩
 rw [ldF_stF g hk hi] at hf
 exact ⟨G, z, rfl, hf, hb⟩
end
structure TdS (A0 B1 B2 C : World → Prop) (x : Nat → Value) (L : Nat → Bool) (q : World) : Prop where
 c : C q
 a0 : L 10 = false → A0 q
 b1 : L 10 = true → L 13 = false → B1 q
 b2 : L 13 = true → B2 q
 l5 : L 5 = true → L 2 = true
 l7 : L 7 = true → L 5 = true
 l10 : L 10 = true → L 5 = true
 l13 : L 13 = true → L 10 = true
section
variable {A0 B1 B2 C : World → Prop} {x : Nat → Value} {L : Nat → Bool} {q q' : World} {v : Value} {i : Nat}
theorem td_start (h0 : A0 q) (hc : C q) : TdS A0 B1 B2 C x (fun _ => false) q := ⟨hc, fun _ => h0, fun h => (Bool.false_ne_true h).elim, fun h => (Bool.false_ne_true h).elim, fun h => h, fun h => (Bool.false_ne_true h).elim, fun h => (Bool.false_ne_true h).elim, fun h => h⟩
theorem td_op (hi : (i != 2 && (i != 5 && (i != 7 && (i != 10 && i != 13)))) = true) (h : TdS A0 B1 B2 C x L q) : TdS A0 B1 B2 C (updX x i v) (updL L i) q := by
 simp only [Bool.and_eq_true, bne_iff_ne] at hi
 obtain ⟨n2, n5, n7, n10, n13⟩ := hi
 refine ⟨h.c, ?_, ?_, ?_, ?_, ?_, ?_, ?_⟩ <;> simp only [pupdL_ne (Ne.symm n2), pupdL_ne (Ne.symm n5), pupdL_ne (Ne.symm n7), pupdL_ne (Ne.symm n10), pupdL_ne (Ne.symm n13)]
 ·exact h.a0
 ·exact h.b1
 ·exact h.b2
 ·exact h.l5
 ·exact h.l7
 ·exact h.l10
 ·exact h.l13
theorem TdS.no10 (h : TdS A0 B1 B2 C x L q) (hL : L 2 = false ∨ L 5 = false) : L 10 = false := by
 cases h10 : L 10 with
 | false => rfl
 | true =>
  have h5 := h.l10 h10
  have h2 := h.l5 h5
  rcases hL with e | e
  ·rw [h2] at e; cases e
  ·rw [h5] at e; cases e
theorem td_al (hi : i = 2 ∨ i = 5) (h : TdS A0 B1 B2 C x L q) (hL : L i = false) (hd : i = 5 → L 2 = true) (h0 : A0 q → A0 q') (hc : C q → C q') : TdS A0 B1 B2 C (updX x i v) (updL L i) q' := by
 have h10 : L 10 = false := h.no10 (by rcases hi with rfl | rfl; exact .inl hL; exact .inr hL)
 have h13 : L 13 = false := by
  cases e : L 13 with
  | false => rfl
  | true => have := h.l13 e; rw [h10] at this; cases this
 have n10 : (10 : Nat) ≠ i := by omega
 have n13 : (13 : Nat) ≠ i := by omega
 have n7 : (7 : Nat) ≠ i := by omega
 refine ⟨hc h.c, fun _ => h0 (h.a0 h10), fun e => ?_, fun e => ?_, fun _ => ?_, fun e => ?_, fun e => ?_, fun e => ?_⟩
 ·rw [pupdL_ne n10, h10] at e; cases e
 ·rw [pupdL_ne n13, h13] at e; cases e
 ·rcases hi with rfl | rfl
  ·exact pupdL_self
  ·exact pupdL_le (hd rfl)
 ·rw [pupdL_ne n7] at e; exact pupdL_le (h.l7 e)
 ·rw [pupdL_ne n10, h10] at e; cases e
 ·rw [pupdL_ne n13, h13] at e; cases e
theorem td_7 (h : TdS A0 B1 B2 C x L q) (hd : L 5 = true) : TdS A0 B1 B2 C (updX x 7 v) (updL L 7) q := by
 refine ⟨h.c, ?_, ?_, ?_, ?_, fun _ => pupdL_le hd, ?_, ?_⟩ <;> simp only [pupdL_ne (show (10 : Nat) ≠ 7 by decide), pupdL_ne (show (13 : Nat) ≠ 7 by decide), pupdL_ne (show (5 : Nat) ≠ 7 by decide), pupdL_ne (show (2 : Nat) ≠ 7 by decide)]
 ·exact h.a0
 ·exact h.b1
 ·exact h.b2
 ·exact h.l5
 ·exact h.l10
 ·exact h.l13
theorem td_10 (h : TdS A0 B1 B2 C x L q) (hL : L 10 = false) (hd : L 7 = true) (h1 : B1 q') (hc : C q') : TdS A0 B1 B2 C (updX x 10 v) (updL L 10) q' := by
 have h13 : L 13 = false := by
  cases e : L 13 with
  | false => rfl
  | true => have := h.l13 e; rw [hL] at this; cases this
 refine ⟨hc, fun e => ?_, fun _ _ => h1, fun e => ?_, ?_, ?_, fun _ => pupdL_le (h.l7 hd), fun _ => pupdL_self⟩
 ·rw [pupdL_self] at e; cases e
 ·rw [pupdL_ne (show (13 : Nat) ≠ 10 by decide), h13] at e; cases e
 ·simp only [pupdL_ne (show (5 : Nat) ≠ 10 by decide), pupdL_ne (show (2 : Nat) ≠ 10 by decide)]; exact h.l5
 ·simp only [pupdL_ne (show (5 : Nat) ≠ 10 by decide), pupdL_ne (show (7 : Nat) ≠ 10 by decide)]; exact h.l7
theorem td_13 (h : TdS A0 B1 B2 C x L q) (hd : L 10 = true) (h2 : B2 q') (hc : C q') : TdS A0 B1 B2 C (updX x 13 v) (updL L 13) q' := by
 refine ⟨hc, fun e => ?_, fun _ e => ?_, fun _ => h2, ?_, ?_, ?_, fun _ => pupdL_le hd⟩
 ·rw [pupdL_ne (show (10 : Nat) ≠ 13 by decide), hd] at e; cases e
 ·rw [pupdL_self] at e; cases e
 ·simp only [pupdL_ne (show (5 : Nat) ≠ 13 by decide), pupdL_ne (show (2 : Nat) ≠ 13 by decide)]; exact h.l5
 ·simp only [pupdL_ne (show (5 : Nat) ≠ 13 by decide), pupdL_ne (show (7 : Nat) ≠ 13 by decide)]; exact h.l7
 ·simp only [pupdL_ne (show (5 : Nat) ≠ 13 by decide), pupdL_ne (show (10 : Nat) ≠ 13 by decide)]; exact h.l10
end
theorem cpR_tail (x : La) : (cpR x).tail = x.R.tail := by unfold cpR; split <;> rfl
set_option maxHeartbeats 16000000 in
set_option maxRecDepth 100000 in
theorem stays_walk (y0 : Pa) (a1 : Option Addr) (len1 cap1 : Nat) (l : List Ev) (a2 : Option Addr) (len2 cap2 : Nat) (l2 : List Ev) (w : World) (w0 : PaAt w y0) (w1 : EvArg w a1 len1 cap1 l) (w2 : EvArg w a2 len2 cap2 l2) (x1 : cap1 * Tryz.prog.bytesOf 43 ≤ reachBytes) (x2 : cap2 * Tryz.prog.bytesOf 43 ≤ reachBytes) : Calls Tryz.prog 5 #[.agg (pgC y0.A y0.c y0.B y0.d y0.p), .slice a1 len1 cap1, .slice a2 len2 cap2] w fun e w' => e = .returned (.bool true) ∧ Below w.heap.size w w' := by
 obtain ⟨A, c, Q, d, p⟩ := y0
 obtain ⟨hp, hok⟩ := w0
 obtain ⟨hlen, hev, heo⟩ := w1
 subst hlen
 obtain ⟨hlen2, hev2, heo2⟩ := w2
 subst hlen2
 have hby : Tryz.prog.bytesOf 43 = 40 := by kernel_rfl
 rw [hby] at x1 x2
 unfold reachBytes at x1 x2
 clear hby
 obtain ⟨he3, he4⟩ := seq_form hev2
 have HEV2 := Lib.hid hev2
 have HEO2 := Lib.hid heo2
 clear hev2 heo2
 obtain ⟨he1, he2⟩ := seq_form hev
 obtain ⟨hd1, hd2⟩ := hp.2.form
 have hb0 : Below w.heap.size w (w.alloc (.cells (pgC A c Q d p) 25)) := (Below.refl _ _).alloc (Nat.le_refl _) _
 have l0 := Lies.made w 25 (pgC A c Q d p)
 have HAW := Lib.hid (fun q => awake_any q)
 have HFE := Lib.hid (fun (q : World) (hq : Below w.heap.size w q) => few17 p A c Q d q (hp.later hq) hok)
 have HB0 := Lib.hid hb0
 have HL0 := Lib.hid l0
 have HP := Lib.hid hp
 have HOK := Lib.hid hok
 have HEV := Lib.hid hev
 have HEO := Lib.hid heo
 clear hb0 l0 hp hok hev heo
 obtain ⟨fb, hfb⟩ : ∃ b, (fewB p 100 && rightP p) = b := ⟨_, rfl⟩
 rw [hfb] at HFE
 have HFB := Lib.hid hfb
 clear hfb
 go_enter Tryz.func5, Tryz.ntmps5
 go_wp2_with fail
 refine (HAW.out _).mono ?_
 rintro e wA ⟨rfl, hbA⟩
 have HB1 := Lib.hid (HB0.out.trans (hbA.mono HB0.out.size))
 have HL1 := Lib.hid (HL0.out.below hbA HL0.out.lt)
 clear hbA HB0 HL0
 have c0 := (HL1.out.cell 0).trans (show _ = some (Value.slice A p.rs.length c) from rfl)
 have c1 := (HL1.out.cell 1).trans (show _ = some (Value.slice Q p.ts.length d) from rfl)
 have cl := HL1.out.lt
 go_wp2_with fail
 refine (HFE.out _ HB1.out).mono ?_
 rintro e wB ⟨rfl, hbB⟩
 have HB2 := Lib.hid (HB1.out.trans (hbB.mono HB1.out.size))
 have HL2 := Lib.hid (HL1.out.below hbB HL1.out.lt)
 clear hbB HB1 HL1 c0 c1 cl
 cases fb with
 | false =>
  go_wp2_with fail
  refine (HAW.out _).mono ?_
  rintro e w3 ⟨rfl, hb3⟩
  have HB3 := Lib.hid (HB2.out.trans (hb3.mono HB2.out.size))
  clear hb3
  go_wp2_with fail
  go_ret
  exact ⟨rfl, HB3.out⟩
 | true =>
  by_cases h80 : 80 < l.length + l2.length
  ·have e80 : decide ((80 : Int) < (l.length : Int) + (l2.length : Int)) = true := decide_eq_true (by omega)
   go_wp2_with fail
   refine (HAW.out _).mono ?_
   rintro e w3 ⟨rfl, hb3⟩
   have HB3 := Lib.hid (HB2.out.trans (hb3.mono HB2.out.size))
   clear hb3
   go_wp2_with fail
   go_ret
   exact ⟨rfl, HB3.out⟩
  have e80 : decide ((80 : Int) < (l.length : Int) + (l2.length : Int)) = false := decide_eq_false (by omega)
  have hfr := HFB.out
  rw [Bool.and_eq_true] at hfr
  obtain ⟨⟨ht0, ht8, hr8⟩, _⟩ := rightP_all hfr.2
  have HNW := Lib.hid (fbNew p A c Q d wB (HP.out.later HB2.out) HOK.out hfr.2)
  have HG0 := Lib.hid (newF_good HOK.out hfr.2)
  clear hfr
  have c0 := (HL2.out.cell 0).trans (show _ = some (Value.slice A p.rs.length c) from rfl)
  have c1 := (HL2.out.cell 1).trans (show _ = some (Value.slice Q p.ts.length d) from rfl)
  have cl := HL2.out.lt
  go_wp2_with fail
  refine HNW.out.mono ?_
  rintro e w3 ⟨F, z, rfl, hF, hf, hb3⟩
  have HB3 := Lib.hid (HB2.out.trans (hb3.mono HB2.out.size))
  have HL3 := Lib.hid (HL2.out.below hb3 HL2.out.lt)
  have HF3 := Lib.hid (hf.mono (B' := w.heap.size) HB2.out.size)
  clear hF hf hb3 HNW HB2 HL2 c0 c1 cl e80
  go_upto_region 6 with (fail)
  have HI : Hid (FsAt w (pgC A c Q d p) F (newF p) 0 z w3) := ⟨HB3.out, HL3.out, HF3.out, HG0.out⟩
  have HRP : Hid (rightP p = true) := by have := HFB.out; rw [Bool.and_eq_true] at this; exact this.2
  have HPP : Hid (FInv (newF p) ∧ (newF p).p = p) := ⟨FInv.new HRP.out, rfl⟩
  clear HB3 HL3 HF3 HG0
  generalize newF p = f0 at *
  go_wp2_with fail
  go_loopw [41] (fun u wr => ∃ (i : Nat) (f : Fb) (z : Fv), i ≤ l.length ∧ u = .int .i64 i ∧ Hid (FsAt w (pgC A c Q d p) F f i z wr) ∧ Hid (FInv f ∧ f.p = p)) (fun u _ => l.length - (intOf u).toNat)
  case atStart => exact ⟨0, _, _, by omega, rfl, HI, HPP⟩
  case round =>
   clear HI HPP z f0
   obtain ⟨i, f, z, hi, rfl, HI, HPP⟩ := hrel
   by_cases hlt : i < l.length
   ·have hii : (i : Int) < (l.length : Int) := by omega
    obtain ⟨e, he⟩ : ∃ e, l[i]? = some e := ⟨_, List.getElem?_eq_getElem hlt⟩
    have heo := HEO.out e (List.mem_of_getElem? he)
    obtain ⟨b, off, rfl, hbl, hec⟩ := EvsAt.at_ HEV.out he
    have hbw := Nat.lt_of_lt_of_le hbl HI.out.bel.size
    have x0 := (HI.out.bel.cell hbl).trans (hec 0 _ (by decide) rfl)
    have x1 := (HI.out.bel.cell hbl).trans (hec 1 _ (by decide) rfl)
    have x2 := (HI.out.bel.cell hbl).trans (hec 2 _ (by decide) rfl)
    have x3 := (HI.out.bel.cell hbl).trans (hec 3 _ (by decide) rfl)
    have x4 := (HI.out.bel.cell hbl).trans (hec 4 _ (by decide) rfl)
    rw [Nat.add_zero] at x0
    have hb5 : Below wr.heap.size wr (wr.alloc (.cells (evC e) 43)) := (Below.refl _ _).alloc (Nat.le_refl _) _
    have HI5 := Lib.hid (HI.out.later hb5)
    have HE5 := Lib.hid (Lies.made wr 43 (evC e))
    have HEE := Lib.hid heo
    clear hec he heo hb5 HI
    go_upto_region 9 with (fail)
    clear x0 x1 x2 x3 x4
    generalize wr.alloc (.cells (evC e) 43) = w5 at *
    generalize wr.heap.size = N9 at *
    have x0 := (HE5.out.cell 0).trans (show _ = some (Value.int .i64 e.th) from rfl)
    have x1 := (HE5.out.cell 1).trans (show _ = some (Value.int .i64 e.kd) from rfl)
    have x2 := (HE5.out.cell 2).trans (show _ = some (Value.int .i64 e.rg) from rfl)
    have x3 := (HE5.out.cell 3).trans (show _ = some (Value.int .u64 (e.tk : Int)) from rfl)
    have x4 := (HE5.out.cell 4).trans (show _ = some (Value.int .u64 (e.vl : Int)) from rfl)
    have xl := HE5.out.lt
    have HDO := Lib.hid (fbDoG HEE.out (by omega) HI5.out.ff HI5.out.fg)
    have HP6 : Hid (FInv (doF f e) ∧ (doF f e).p = p) := ⟨HPP.out.1.did HI5.out.fg (by omega), by unfold doF; split; rw [perfF_p]; exact HPP.out.2; exact HPP.out.2⟩
    go_wp2_with fail
    refine HDO.out.mono ?_
    rintro r w6 hd
    obtain ⟨rfl, z6, hI6⟩ := HI5.out.did hd
    have HI6 := Lib.hid hI6
    clear hd hI6 HDO HI5 HE5 x0 x1 x2 x3 x4 xl
    go_wp2
    go_roundw
    case rel => exact ⟨i + 1, doF f e, z6, by omega, by go_num, HI6, HP6⟩
    case measure => simp [intOf]; omega
   ·obtain rfl : i = l.length := by omega
    clear hi hlt
    have c0 := (HI.out.box.cell 0).trans (show _ = some (Value.slice A p.rs.length c) from rfl)
    have cl := HI.out.box.lt
    go_upto_region 11 with (fail)
    go_wp2_with fail
    clear c0 cl
    go_loopw [52] (fun u wr => ∃ j : Nat, j ≤ p.rs.length ∧ u = .int .i64 j ∧ Hid (FsAt w (pgC A c Q d p) F f l.length z wr)) (fun u _ => p.rs.length - (intOf u).toNat)
    case atStart => exact ⟨0, by omega, rfl, HI⟩
    case round =>
     clear HI
     obtain ⟨j, hj, rfl, HI⟩ := hrel
     by_cases hlt : j < p.rs.length
     ·have hjj : (j : Int) < (p.rs.length : Int) := by omega
      have HRN := Lib.hid (fbRing j (by rw [HPP.out.2]; exact hlt) HI.out.ff HI.out.fg.ok)
      go_wp2_with fail
      refine HRN.out.mono ?_
      rintro e w5 ⟨q5, rfl, h51, h52, h53⟩
      have HCL := Lib.hid (rgClose h52 rfl)
      have HI5 := Lib.hid (And.intro h51 h53)
      clear h51 h52 h53 HRN
      go_wp2_with fail
      refine HCL.out.mono ?_
      rintro e w6 ⟨rfl, _, hk⟩
      have HI6 := Lib.hid (HI.out.later (HI5.out.2.trans (hk.below HI5.out.2.size (fun r hr (e : r = q5) => by have := HI5.out.1; omega))))
      clear hk HCL HI5 HI
      have HRN := Lib.hid (fbRing j (by rw [HPP.out.2]; exact hlt) HI6.out.ff HI6.out.fg.ok)
      go_wp2_with fail
      refine HRN.out.mono ?_
      rintro e w7 ⟨q7, rfl, h71, h72, h73⟩
      have HCM := Lib.hid (rgClaim h72 rfl (by rw [cpR_tail]; have := lnN_tail HI6.out.fg.tl (j : Int); omega))
      have HI7 := Lib.hid (And.intro h71 h73)
      clear h71 h72 h73 HRN
      go_wp2_with fail
      refine HCM.out.mono ?_
      rintro e w8 ⟨rfl, _, hk⟩
      have HI8 := Lib.hid (HI6.out.later (HI7.out.2.trans (hk.below HI7.out.2.size (fun r hr (e : r = q7) => by have := HI7.out.1; omega))))
      clear hk HCM HI7 HI6
      go_wp2
      go_roundw
      case rel => exact ⟨j + 1, by omega, by go_num, HI8⟩
      case measure => simp [intOf]; omega
     ·obtain rfl : j = p.rs.length := by omega
      clear hj hlt
      go_upto_region 17 with (fail)
      have hpp := HPP.out.2
      have HST := Lib.hid (fun (q : World) (hq : Below wr.heap.size wr q) => fbStV (HI.out.later hq).ff (HI.out.later hq).fg (by omega) (by rw [hpp]; exact ht8) (by rw [hpp]; exact hr8))
      have HLD := Lib.hid (fun (q : World) (hq : Below wr.heap.size wr q) (v : Value) (B : Nat) (hv : StV (stF f) B v q) => by
       have := fbLoadV (A := A) (c := c) (Q := Q) (d := d) (by rw [hpp]; exact HP.out.later (HI.out.later hq).bel) HI.out.fg (by omega) HPP.out.1 (by rw [hpp]; exact HRP.out) hv
       rw [hpp] at this
       exact this)
      have HBX := Lib.hid (fun (q : World) (hq : Below wr.heap.size wr q) => (HI.out.later hq).box)
      clear hpp
      refine wp_region_rely (fun q => Below wr.heap.size wr q) (bfV [.eq (.agg (pgC A c Q d p)), .eq (.pointer (some ⟨F, 0, none⟩)), .of (fun u q => ∃ B, StV (stF f) B u q) (fun _ _ _ hb ⟨B, h⟩ => ⟨B, h.below hb⟩), .of (fun u q => ∃ (G : Nat) (zg : Fv), u = .tuple #[.pointer (some ⟨G, 0, none⟩), .int .i64 0] ∧ FabAt q wr.heap.size G f zg) (fun _ _ _ hb ⟨G, zg, e, h⟩ => ⟨G, zg, e, h.later hb⟩), .of (fun u q => ∃ (G : Nat) (zg : Fv), u = .tuple #[.pointer (some ⟨G, 0, none⟩), .int .i64 0] ∧ FabAt q wr.heap.size G f zg) (fun _ _ _ hb ⟨G, zg, e, h⟩ => ⟨G, zg, e, h.later hb⟩), .of (fun u q => ∃ (G : Nat) (zg : Fv), u = .pointer (some ⟨G, 0, none⟩) ∧ FabAt q wr.heap.size G f zg) (fun _ _ _ hb ⟨G, zg, e, h⟩ => ⟨G, zg, e, h.later hb⟩), .eq (.int .i64 0), .of (fun u q => ∃ (G : Nat) (zg : Fv), u = .pointer (some ⟨G, 0, none⟩) ∧ FabAt q wr.heap.size G f zg) (fun _ _ _ hb ⟨G, zg, e, h⟩ => ⟨G, zg, e, h.later hb⟩), .eq (.int .i64 0)]) [some 65, some 66, some 67, some 68, some 64, some 69, some 70, some 12, some 13] [[], [], [1], [0, 2], [3], [4], [4], [5], [6]] [[], [], [1], [0, 1, 2], [0, 2, 3], [3], [3], [0, 1, 2, 3, 5], [0, 1, 2, 3, 4, 5, 6]] [[1, 2, 4, 5, 6], [0, 3, 4, 5, 6], [0, 4, 5, 6], [5, 6], [], [1, 4, 6], [1, 4, 5, 7], [4, 6], [7]] [0, 1, 2, 3, 4, 5, 6, 7, 8] 9 (by kernel_rfl) (by kernel_rfl) (by kernel_rfl) (by kernel_rfl) ?rS (fun j h1 h2 => absurd (Nat.lt_of_lt_of_le h1 (Nat.le_trans (by decide) h2)) (Nat.lt_irrefl _)) ?rT ?rE
      case rS => exact below_drewN (Below.refl _ _) 1
      case rT =>
       refine RelySteps.cons (RelyStep.mk [] [1, 2, 4, 5, 6] rfl rfl rfl (fun xv wS hS hV bq hb K hK => ?_)) ?_
       ·clear hV
        simp only [putsOf, List.foldl_cons, List.foldl_nil, List.getD_cons_zero, List.getD_cons_succ, List.getD_nil, cond_true, cond_false, Act.put, List.setIfInBounds_toArray, List.set_cons_zero, List.set_cons_succ] at hb
        subst hb
        rw [if_pos (by rfl)]
        (have l5 := HBX.out _ hS; have c0 := (l5.cell 0).trans (show _ = some (Value.slice A p.rs.length c) from rfl); have c1 := (l5.cell 1).trans (show _ = some (Value.slice Q p.ts.length d) from rfl); have c2 := l5.lt; clear l5)
        go_wp2_with fail
        exact hK.out _ _ ⟨_, rfl, hS, rfl, AllP.same _⟩
       refine RelySteps.cons (RelyStep.mk [] [0, 3, 4, 5, 6] rfl rfl rfl (fun xv wS hS hV bq hb K hK => ?_)) ?_
       ·clear hV
        simp only [putsOf, List.foldl_cons, List.foldl_nil, List.getD_cons_zero, List.getD_cons_succ, List.getD_nil, cond_true, cond_false, Act.put, List.setIfInBounds_toArray, List.set_cons_zero, List.set_cons_succ] at hb
        subst hb
        rw [if_pos (by rfl)]
        go_wp2_with fail
        exact hK.out _ _ ⟨_, rfl, hS, rfl, AllP.same _⟩
       refine RelySteps.cons (RelyStep.mk [1] [0, 4, 5, 6] rfl rfl rfl (fun xv wS hS hV bq hb K hK => ?_)) ?_
       ·obtain ⟨h1, _⟩ := hV
        have h1 : xv 1 = _ := h1
        simp only [putsOf, List.foldl_cons, List.foldl_nil, List.getD_cons_zero, List.getD_cons_succ, List.getD_nil, cond_true, cond_false, Act.put, List.setIfInBounds_toArray, List.set_cons_zero, List.set_cons_succ, h1] at hb
        clear h1
        subst hb
        rw [if_pos (by rfl)]
        have HSS := Lib.hid hS
        clear hS
        go_wp2_with fail
        refine (HST.out wS HSS.out).mono ?_
        rintro r w' ⟨v, rfl, hv, hb⟩
        exact hK.out _ _ ⟨_, rfl, then_ HSS.out hb, ⟨_, hv⟩, AllP.of _ (fun j _ _ h => bfV_below hb h)⟩
       refine RelySteps.cons (RelyStep.mk [0, 2] [5, 6] rfl rfl rfl (fun xv wS hS hV bq hb K hK => ?_)) ?_
       ·obtain ⟨h0, h2, _⟩ := hV
        have h0 : xv 0 = _ := h0
        simp only [putsOf, List.foldl_cons, List.foldl_nil, List.getD_cons_zero, List.getD_cons_succ, List.getD_nil, cond_true, cond_false, Act.put, List.setIfInBounds_toArray, List.set_cons_zero, List.set_cons_succ, h0] at hb
        clear h0
        generalize xv 2 = y2 at *
        subst hb
        rw [if_pos (by rfl)]
        obtain ⟨B2, s2⟩ := h2
        have HLV := Lib.hid (HLD.out wS hS _ B2 s2)
        have HSS := Lib.hid hS
        clear hS s2
        go_wp2_with fail
        refine HLV.out.mono ?_
        rintro r w' ⟨G, zg, rfl, hg, hb⟩
        exact hK.out _ _ ⟨_, rfl, then_ HSS.out hb, ⟨G, zg, rfl, hg.mono HSS.out.size⟩, AllP.of _ (fun j _ _ h => bfV_below hb h)⟩
       refine RelySteps.cons (RelyStep.mk [3] [] rfl rfl rfl (fun xv wS hS hV bq hb K hK => ?_)) ?_
       ·obtain ⟨h3, _⟩ := hV
        simp only [putsOf, List.foldl_cons, List.foldl_nil, List.getD_cons_zero, List.getD_cons_succ, List.getD_nil, cond_true, cond_false, Act.put, List.setIfInBounds_toArray, List.set_cons_zero, List.set_cons_succ] at hb
        generalize xv 3 = y3 at *
        subst hb
        rw [if_pos (by rfl)]
        obtain ⟨G, zg, rfl, hg⟩ := h3
        have HG := Lib.hid hg
        clear hg
        go_wp2_with fail
        exact hK.out _ _ ⟨_, rfl, hS, ⟨G, zg, rfl, HG.out⟩, AllP.same _⟩
       refine RelySteps.cons (RelyStep.mk [4] [1, 4, 6] rfl rfl rfl (fun xv wS hS hV bq hb K hK => ?_)) ?_
       ·obtain ⟨h4, _⟩ := hV
        simp only [putsOf, List.foldl_cons, List.foldl_nil, List.getD_cons_zero, List.getD_cons_succ, List.getD_nil, cond_true, cond_false, Act.put, List.setIfInBounds_toArray, List.set_cons_zero, List.set_cons_succ] at hb
        generalize xv 4 = y4 at *
        subst hb
        rw [if_pos (by rfl)]
        obtain ⟨G, zg, rfl, hg⟩ := h4
        have HG := Lib.hid hg
        clear hg
        go_wp2_with fail
        exact hK.out _ _ ⟨_, rfl, hS, ⟨G, zg, rfl, HG.out⟩, AllP.same _⟩
       refine RelySteps.cons (RelyStep.mk [4] [1, 4, 5, 7] rfl rfl rfl (fun xv wS hS hV bq hb K hK => ?_)) ?_
       ·obtain ⟨h4, _⟩ := hV
        simp only [putsOf, List.foldl_cons, List.foldl_nil, List.getD_cons_zero, List.getD_cons_succ, List.getD_nil, cond_true, cond_false, Act.put, List.setIfInBounds_toArray, List.set_cons_zero, List.set_cons_succ] at hb
        generalize xv 4 = y4 at *
        subst hb
        rw [if_pos (by rfl)]
        obtain ⟨G, zg, rfl, hg⟩ := h4
        clear hg
        go_wp2_with fail
        exact hK.out _ _ ⟨_, rfl, hS, rfl, AllP.same _⟩
       refine RelySteps.cons (RelyStep.mk [5] [4, 6] rfl rfl rfl (fun xv wS hS hV bq hb K hK => ?_)) ?_
       ·obtain ⟨h5, _⟩ := hV
        simp only [putsOf, List.foldl_cons, List.foldl_nil, List.getD_cons_zero, List.getD_cons_succ, List.getD_nil, cond_true, cond_false, Act.put, List.setIfInBounds_toArray, List.set_cons_zero, List.set_cons_succ] at hb
        generalize xv 5 = y5 at *
        subst hb
        rw [if_pos (by rfl)]
        obtain ⟨G, zg, rfl, hg⟩ := h5
        have HG := Lib.hid hg
        clear hg
        go_wp2_with fail
        exact hK.out _ _ ⟨_, rfl, hS, ⟨G, zg, rfl, HG.out⟩, AllP.same _⟩
       refine RelySteps.cons (RelyStep.mk [6] [7] rfl rfl rfl (fun xv wS hS hV bq hb K hK => ?_)) ?_
       ·obtain ⟨h6, _⟩ := hV
        have h6 : xv 6 = _ := h6
        simp only [putsOf, List.foldl_cons, List.foldl_nil, List.getD_cons_zero, List.getD_cons_succ, List.getD_nil, cond_true, cond_false, Act.put, List.setIfInBounds_toArray, List.set_cons_zero, List.set_cons_succ, h6] at hb
        clear h6
        subst hb
        rw [if_pos (by rfl)]
        go_wp2_with fail
        exact hK.out _ _ ⟨_, rfl, hS, rfl, AllP.same _⟩
       exact RelySteps.nil
      case rE =>
      intro xv wE hS hV
      have h7 := hV 7 (by decide) (by decide)
      have h8 := hV 8 (by decide) (by decide)
      clear hV
      simp only [putsOf, List.foldl_cons, List.foldl_nil, List.getD_cons_zero, List.getD_cons_succ, List.getD_nil, cond_true, cond_false, Act.put, List.setIfInBounds_toArray, List.set_cons_zero, List.set_cons_succ]
      have h8 : xv 8 = _ := h8
      rw [h8]; clear h8
      generalize xv 0 = y0 at *
      generalize xv 1 = y1 at *
      generalize xv 2 = y2 at *
      generalize xv 3 = y3 at *
      generalize xv 4 = y4 at *
      generalize xv 5 = y5 at *
      generalize xv 6 = y6 at *
      generalize xv 7 = y7 at *
      obtain ⟨G, zg, rfl, hg⟩ := h7
      have HT : Hid (TsAt w (pgC A c Q d p) F G f f l.length l.length z zg wE) := by
       have hl := HI.out.later hS
       refine ⟨hl.bel, hl.box, hl.ff, hl.fg, hg.mono HI.out.bel.size, hl.fg, fun r hr hr2 => ?_⟩
       obtain ⟨_, e1, c1, h1, _⟩ := fb_types HI.out.ff hr
       have h2 := (fb_types hg hr2).1
       have := h1.lt
       omega
      have HTP : Hid (f.p = p) := HPP.out.2
      clear hS hg HST HLD HBX HI HPP
      generalize wE = w9 at *
      go_upto_region 20 with (fail)
      go_wp2_with fail
      generalize hz : z = zf0 at HT
      clear hz
      go_loopw [79] (fun u wr => ∃ (i : Nat) (f : Fb) (zf zg : Fv), i ≤ l2.length ∧ u = .int .i64 i ∧ Hid (TsAt w (pgC A c Q d p) F G f f (l.length + i) (l.length + i) zf zg wr) ∧ Hid (f.p = p)) (fun u _ => l2.length - (intOf u).toNat)
      case atStart => exact ⟨0, _, _, _, by omega, rfl, HT, HTP⟩
      case round =>
      clear HT HTP
      obtain ⟨i, f, zf, zg, hi, rfl, HT, HTP⟩ := hrel
      by_cases hlt : i < l2.length
      ·have hii : (i : Int) < (l2.length : Int) := by omega
       obtain ⟨e, he⟩ : ∃ e, l2[i]? = some e := ⟨_, List.getElem?_eq_getElem hlt⟩
       have heo := HEO2.out e (List.mem_of_getElem? he)
       obtain ⟨b2, off2, rfl, hbl, hec⟩ := EvsAt.at_ HEV2.out he
       have hbw := Nat.lt_of_lt_of_le hbl HT.out.bel.size
       have x0 := (HT.out.bel.cell hbl).trans (hec 0 _ (by decide) rfl)
       have x1 := (HT.out.bel.cell hbl).trans (hec 1 _ (by decide) rfl)
       have x2 := (HT.out.bel.cell hbl).trans (hec 2 _ (by decide) rfl)
       have x3 := (HT.out.bel.cell hbl).trans (hec 3 _ (by decide) rfl)
       have x4 := (HT.out.bel.cell hbl).trans (hec 4 _ (by decide) rfl)
       rw [Nat.add_zero] at x0
       have hb5 : Below wr.heap.size wr (wr.alloc (.cells (evC e) 43)) := (Below.refl _ _).alloc (Nat.le_refl _) _
       have HT5 := Lib.hid (HT.out.later hb5)
       have HE5 := Lib.hid (Lies.made wr 43 (evC e))
       have HEE := Lib.hid heo
       clear hec he heo hb5 HT
       go_upto_region 23 with (fail)
       clear x0 x1 x2 x3 x4
       generalize wr.alloc (.cells (evC e) 43) = w5 at *
       generalize wr.heap.size = N9 at *
       obtain ⟨ab, hab⟩ : ∃ b, alwB f e = b := ⟨_, rfl⟩
       obtain ⟨E, hE⟩ : ∃ E, fdoE f e = E := ⟨_, rfl⟩
       have HP7 : Hid ((doF f e).p = p) := by show _ = _; unfold doF; split; rw [perfF_p]; exact HTP.out; exact HTP.out
       obtain ⟨f7, hf7⟩ : ∃ g, doF f e = g := ⟨_, rfl⟩
       rw [hf7] at HP7
       have HFE := Lib.hid (And.intro hE hf7)
       clear hE hf7
       refine wp_region_relyx (TdS (fun q => TsAt w (pgC A c Q d p) F G f f (l.length + i) (l.length + i) zf zg q) (fun q => ∃ zq, TsAt w (pgC A c Q d p) F G f7 f (l.length + i + 1) (l.length + i) zq zg q) (fun q => ∃ zq zr, TsAt w (pgC A c Q d p) F G f7 f7 (l.length + i + 1) (l.length + i + 1) zq zr q) (fun q => Lies q N9 43 (evC e))) (bfV [.eq (.pointer (some ⟨F, 0, none⟩)), .eq (.agg (evC e)), .eq (.bool ab), .eq (.pointer (some ⟨G, 0, none⟩)), .eq (.agg (evC e)), .eq (.bool ab), .eq (.bool false), .eq (.bool false), .eq (.pointer (some ⟨F, 0, none⟩)), .eq (.agg (evC e)), .eq (.int .i64 E), .eq (.pointer (some ⟨G, 0, none⟩)), .eq (.agg (evC e)), .eq (.int .i64 E), .eq (.bool false), .eq (.bool false)]) [some 83, some 84, some 85, some 86, some 87, some 88, some 89, some 90, some 91, some 92, some 93, some 94, some 95, some 96, some 97, some 98] [[], [], [0, 1], [], [], [3, 4], [2, 5], [6], [7], [7], [8, 9, 7], [7], [7], [11, 12, 7], [10, 13, 7], [7, 14]] [[], [], [0, 1], [], [], [0, 1, 3, 4], [0, 1, 2, 3, 4, 5], [2, 3, 4, 5, 6], [6], [6], [6, 8, 9], [6], [6], [6, 8, 9, 11, 12], [6, 8, 9, 10, 11, 12, 13], [6, 10, 13, 14]] [[1, 3, 4, 5, 6, 7, 8, 9, 10, 11, 12, 13, 14, 15], [0, 3, 4, 5, 6, 7, 8, 9, 10, 11, 12, 13, 14, 15], [3, 4, 7, 8, 9, 10, 11, 12, 13, 14, 15], [0, 1, 2, 4, 6, 7, 8, 9, 10, 11, 12, 13, 14, 15], [0, 1, 2, 3, 6, 7, 8, 9, 10, 11, 12, 13, 14, 15], [2, 8, 9, 10, 11, 12, 13, 14, 15], [8, 9, 10, 11, 12, 13, 14, 15], [], [0, 1, 7, 9, 11, 12, 13, 14, 15], [0, 1, 7, 8, 11, 12, 13, 14, 15], [0, 1, 7, 11, 12, 15], [0, 1, 7, 8, 9, 10, 12, 14, 15], [0, 1, 7, 8, 9, 10, 11, 14, 15], [0, 1, 7, 10, 15], [0, 1, 7], [0, 1, 7]] [0, 1, 2, 3, 4, 5, 6, 7, 8, 9, 10, 11, 12, 13, 14, 15] 16 (by kernel_rfl) (by kernel_rfl) (by kernel_rfl) (by kernel_rfl) ?rS (fun j h1 h2 => absurd (Nat.lt_of_lt_of_le h1 (Nat.le_trans (by decide) h2)) (Nat.lt_irrefl _)) ?rT ?rE
       case rS => exact td_start (HT5.out.later (below_drewN (Below.refl _ _) 1)) (HE5.out.drewN 1)
       case rT =>
        refine RelyStepsX.cons (RelyStepX.mk [] [1, 3, 4, 5, 6, 7, 8, 9, 10, 11, 12, 13, 14, 15] rfl rfl rfl (fun xv Lv wS hS hL hLd hV bq hb K hK => ?_)) ?_
        ·clear hV
         simp only [putsOf, List.foldl_cons, List.foldl_nil, List.getD_cons_zero, List.getD_cons_succ, List.getD_nil, cond_true, cond_false, Act.put, List.setIfInBounds_toArray, List.set_cons_zero, List.set_cons_succ] at hb
         subst hb
         rw [if_pos (by rfl)]
         go_wp2_with fail
         exact hK.out _ _ ⟨_, rfl, td_op (i := 0) rfl hS, rfl, AllPX.same _⟩
        refine RelyStepsX.cons (RelyStepX.mk [] [0, 3, 4, 5, 6, 7, 8, 9, 10, 11, 12, 13, 14, 15] rfl rfl rfl (fun xv Lv wS hS hL hLd hV bq hb K hK => ?_)) ?_
        ·clear hV
         simp only [putsOf, List.foldl_cons, List.foldl_nil, List.getD_cons_zero, List.getD_cons_succ, List.getD_nil, cond_true, cond_false, Act.put, List.setIfInBounds_toArray, List.set_cons_zero, List.set_cons_succ] at hb
         subst hb
         rw [if_pos (by rfl)]
         (have l5 := hS.c; have q0 := (l5.cell 0).trans (show _ = some (Value.int .i64 e.th) from rfl); have q1 := (l5.cell 1).trans (show _ = some (Value.int .i64 e.kd) from rfl); have q2 := (l5.cell 2).trans (show _ = some (Value.int .i64 e.rg) from rfl); have q3 := (l5.cell 3).trans (show _ = some (Value.int .u64 (e.tk : Int)) from rfl); have q4 := (l5.cell 4).trans (show _ = some (Value.int .u64 (e.vl : Int)) from rfl); have q5 := l5.lt; clear l5)
         go_wp2_with fail
         exact hK.out _ _ ⟨_, rfl, td_op (i := 1) rfl hS, rfl, AllPX.same _⟩
        refine RelyStepsX.cons (RelyStepX.mk [0, 1] [3, 4, 7, 8, 9, 10, 11, 12, 13, 14, 15] rfl rfl rfl (fun xv Lv wS hS hL hLd hV bq hb K hK => ?_)) ?_
        ·obtain ⟨h0, h1, _⟩ := hV
         have h0 : xv 0 = _ := h0
         have h1 : xv 1 = _ := h1
         simp only [putsOf, List.foldl_cons, List.foldl_nil, List.getD_cons_zero, List.getD_cons_succ, List.getD_nil, cond_true, cond_false, Act.put, List.setIfInBounds_toArray, List.set_cons_zero, List.set_cons_succ, h0, h1] at hb
         clear h0
         clear h1
         subst hb
         rw [if_pos (by rfl)]
         have hA := hS.a0 (hS.no10 (.inl hL))
         have HAL := Lib.hid (fbAllowedG HEE.out hA.tw.ff hA.tw.fg)
         rw [hab] at HAL
         have HSS := Lib.hid hS
         clear hS hA
         go_wp2_with fail
         refine HAL.out.mono ?_
         rintro r w' ⟨rfl, hb⟩
         exact hK.out _ _ ⟨_, rfl, td_al (i := 2) (by omega) HSS.out hL (fun h => by omega) (fun h => h.later hb) (fun h => h.below hb h.lt), rfl, AllPX.of _ (fun j hj _ h => bfV_lit (by rfl) hj h)⟩
        refine RelyStepsX.cons (RelyStepX.mk [] [0, 1, 2, 4, 6, 7, 8, 9, 10, 11, 12, 13, 14, 15] rfl rfl rfl (fun xv Lv wS hS hL hLd hV bq hb K hK => ?_)) ?_
        ·clear hV
         simp only [putsOf, List.foldl_cons, List.foldl_nil, List.getD_cons_zero, List.getD_cons_succ, List.getD_nil, cond_true, cond_false, Act.put, List.setIfInBounds_toArray, List.set_cons_zero, List.set_cons_succ] at hb
         subst hb
         rw [if_pos (by rfl)]
         go_wp2_with fail
         exact hK.out _ _ ⟨_, rfl, td_op (i := 3) rfl hS, rfl, AllPX.same _⟩
        refine RelyStepsX.cons (RelyStepX.mk [] [0, 1, 2, 3, 6, 7, 8, 9, 10, 11, 12, 13, 14, 15] rfl rfl rfl (fun xv Lv wS hS hL hLd hV bq hb K hK => ?_)) ?_
        ·clear hV
         simp only [putsOf, List.foldl_cons, List.foldl_nil, List.getD_cons_zero, List.getD_cons_succ, List.getD_nil, cond_true, cond_false, Act.put, List.setIfInBounds_toArray, List.set_cons_zero, List.set_cons_succ] at hb
         subst hb
         rw [if_pos (by rfl)]
         (have l5 := hS.c; have q0 := (l5.cell 0).trans (show _ = some (Value.int .i64 e.th) from rfl); have q1 := (l5.cell 1).trans (show _ = some (Value.int .i64 e.kd) from rfl); have q2 := (l5.cell 2).trans (show _ = some (Value.int .i64 e.rg) from rfl); have q3 := (l5.cell 3).trans (show _ = some (Value.int .u64 (e.tk : Int)) from rfl); have q4 := (l5.cell 4).trans (show _ = some (Value.int .u64 (e.vl : Int)) from rfl); have q5 := l5.lt; clear l5)
         go_wp2_with fail
         exact hK.out _ _ ⟨_, rfl, td_op (i := 4) rfl hS, rfl, AllPX.same _⟩
        refine RelyStepsX.cons (RelyStepX.mk [3, 4] [2, 8, 9, 10, 11, 12, 13, 14, 15] rfl rfl rfl (fun xv Lv wS hS hL hLd hV bq hb K hK => ?_)) ?_
        ·obtain ⟨h3, h4, _⟩ := hV
         have h3 : xv 3 = _ := h3
         have h4 : xv 4 = _ := h4
         simp only [putsOf, List.foldl_cons, List.foldl_nil, List.getD_cons_zero, List.getD_cons_succ, List.getD_nil, cond_true, cond_false, Act.put, List.setIfInBounds_toArray, List.set_cons_zero, List.set_cons_succ, h3, h4] at hb
         clear h3
         clear h4
         subst hb
         rw [if_pos (by rfl)]
         have hA := hS.a0 (hS.no10 (.inr hL))
         have HAL := Lib.hid (fbAllowedG HEE.out hA.tw.gf hA.tw.gg)
         rw [hab] at HAL
         have HSS := Lib.hid hS
         clear hS hA
         go_wp2_with fail
         refine HAL.out.mono ?_
         rintro r w' ⟨rfl, hb⟩
         exact hK.out _ _ ⟨_, rfl, td_al (i := 5) (by omega) HSS.out hL (fun _ => hLd 2 (by decide +kernel)) (fun h => h.later hb) (fun h => h.below hb h.lt), rfl, AllPX.of _ (fun j hj _ h => bfV_lit (by rfl) hj h)⟩
        refine RelyStepsX.cons (RelyStepX.mk [2, 5] [8, 9, 10, 11, 12, 13, 14, 15] rfl rfl rfl (fun xv Lv wS hS hL hLd hV bq hb K hK => ?_)) ?_
        ·obtain ⟨h2, h5, _⟩ := hV
         have h2 : xv 2 = _ := h2
         have h5 : xv 5 = _ := h5
         simp only [putsOf, List.foldl_cons, List.foldl_nil, List.getD_cons_zero, List.getD_cons_succ, List.getD_nil, cond_true, cond_false, Act.put, List.setIfInBounds_toArray, List.set_cons_zero, List.set_cons_succ, h2, h5] at hb
         clear h2
         clear h5
         subst hb
         rw [if_pos (by rfl)]
         go_wp2_with fail
         exact hK.out _ _ ⟨_, rfl, td_op (i := 6) rfl hS, by cases ab <;> rfl, AllPX.same _⟩
        refine RelyStepsX.cons (RelyStepX.mk [6] [] rfl rfl rfl (fun xv Lv wS hS hL hLd hV bq hb K hK => ?_)) ?_
        ·obtain ⟨h6, _⟩ := hV
         have h6 : xv 6 = _ := h6
         simp only [putsOf, List.foldl_cons, List.foldl_nil, List.getD_cons_zero, List.getD_cons_succ, List.getD_nil, cond_true, cond_false, Act.put, List.setIfInBounds_toArray, List.set_cons_zero, List.set_cons_succ, h6] at hb
         clear h6
         subst hb
         rw [if_pos (by rfl)]
         go_wp2_with fail
         exact hK.out _ _ ⟨_, rfl, td_7 hS (hLd 5 (by decide +kernel)), rfl, AllPX.same _⟩
        refine RelyStepsX.cons (RelyStepX.mk [7] [0, 1, 7, 9, 11, 12, 13, 14, 15] rfl rfl rfl (fun xv Lv wS hS hL hLd hV bq hb K hK => ?_)) ?_
        ·obtain ⟨h7, _⟩ := hV
         have h7 : xv 7 = _ := h7
         simp only [putsOf, List.foldl_cons, List.foldl_nil, List.getD_cons_zero, List.getD_cons_succ, List.getD_nil, cond_true, cond_false, Act.put, List.setIfInBounds_toArray, List.set_cons_zero, List.set_cons_succ, h7] at hb
         clear h7
         subst hb
         rw [if_pos (by rfl)]
         go_wp2_with fail
         exact hK.out _ _ ⟨_, rfl, td_op (i := 8) rfl hS, rfl, AllPX.same _⟩
        refine RelyStepsX.cons (RelyStepX.mk [7] [0, 1, 7, 8, 11, 12, 13, 14, 15] rfl rfl rfl (fun xv Lv wS hS hL hLd hV bq hb K hK => ?_)) ?_
        ·obtain ⟨h7, _⟩ := hV
         have h7 : xv 7 = _ := h7
         simp only [putsOf, List.foldl_cons, List.foldl_nil, List.getD_cons_zero, List.getD_cons_succ, List.getD_nil, cond_true, cond_false, Act.put, List.setIfInBounds_toArray, List.set_cons_zero, List.set_cons_succ, h7] at hb
         clear h7
         subst hb
         rw [if_pos (by rfl)]
         (have l5 := hS.c; have q0 := (l5.cell 0).trans (show _ = some (Value.int .i64 e.th) from rfl); have q1 := (l5.cell 1).trans (show _ = some (Value.int .i64 e.kd) from rfl); have q2 := (l5.cell 2).trans (show _ = some (Value.int .i64 e.rg) from rfl); have q3 := (l5.cell 3).trans (show _ = some (Value.int .u64 (e.tk : Int)) from rfl); have q4 := (l5.cell 4).trans (show _ = some (Value.int .u64 (e.vl : Int)) from rfl); have q5 := l5.lt; clear l5)
         go_wp2_with fail
         exact hK.out _ _ ⟨_, rfl, td_op (i := 9) rfl hS, rfl, AllPX.same _⟩
        refine RelyStepsX.cons (RelyStepX.mk [8, 9, 7] [0, 1, 7, 11, 12, 15] rfl rfl rfl (fun xv Lv wS hS hL hLd hV bq hb K hK => ?_)) ?_
        ·obtain ⟨h8, h9, h7, _⟩ := hV
         have h8 : xv 8 = _ := h8
         have h9 : xv 9 = _ := h9
         have h7 : xv 7 = _ := h7
         simp only [putsOf, List.foldl_cons, List.foldl_nil, List.getD_cons_zero, List.getD_cons_succ, List.getD_nil, cond_true, cond_false, Act.put, List.setIfInBounds_toArray, List.set_cons_zero, List.set_cons_succ, h8, h9, h7] at hb
         clear h8
         clear h9
         clear h7
         subst hb
         rw [if_pos (by rfl)]
         have hA := hS.a0 hL
         have HDO := Lib.hid (fbDoG HEE.out (by omega) hA.tw.ff hA.tw.fg)
         rw [HFE.out.1, HFE.out.2] at HDO
         have HA := Lib.hid hA
         have HSS := Lib.hid hS
         clear hS hA
         go_wp2_with fail
         refine HDO.out.mono ?_
         rintro r w' hd
         obtain ⟨rfl, hk, zq, hq⟩ := HA.out.first hd
         exact hK.out _ _ ⟨_, rfl, td_10 HSS.out hL (hLd 7 (by decide +kernel)) ⟨zq, hq⟩ (hk _ _ _ HSS.out.c (by decide)), rfl, AllPX.of _ (fun j hj _ h => bfV_lit (by rfl) hj h)⟩
        refine RelyStepsX.cons (RelyStepX.mk [7] [0, 1, 7, 8, 9, 10, 12, 14, 15] rfl rfl rfl (fun xv Lv wS hS hL hLd hV bq hb K hK => ?_)) ?_
        ·obtain ⟨h7, _⟩ := hV
         have h7 : xv 7 = _ := h7
         simp only [putsOf, List.foldl_cons, List.foldl_nil, List.getD_cons_zero, List.getD_cons_succ, List.getD_nil, cond_true, cond_false, Act.put, List.setIfInBounds_toArray, List.set_cons_zero, List.set_cons_succ, h7] at hb
         clear h7
         subst hb
         rw [if_pos (by rfl)]
         go_wp2_with fail
         exact hK.out _ _ ⟨_, rfl, td_op (i := 11) rfl hS, rfl, AllPX.same _⟩
        refine RelyStepsX.cons (RelyStepX.mk [7] [0, 1, 7, 8, 9, 10, 11, 14, 15] rfl rfl rfl (fun xv Lv wS hS hL hLd hV bq hb K hK => ?_)) ?_
        ·obtain ⟨h7, _⟩ := hV
         have h7 : xv 7 = _ := h7
         simp only [putsOf, List.foldl_cons, List.foldl_nil, List.getD_cons_zero, List.getD_cons_succ, List.getD_nil, cond_true, cond_false, Act.put, List.setIfInBounds_toArray, List.set_cons_zero, List.set_cons_succ, h7] at hb
         clear h7
         subst hb
         rw [if_pos (by rfl)]
         (have l5 := hS.c; have q0 := (l5.cell 0).trans (show _ = some (Value.int .i64 e.th) from rfl); have q1 := (l5.cell 1).trans (show _ = some (Value.int .i64 e.kd) from rfl); have q2 := (l5.cell 2).trans (show _ = some (Value.int .i64 e.rg) from rfl); have q3 := (l5.cell 3).trans (show _ = some (Value.int .u64 (e.tk : Int)) from rfl); have q4 := (l5.cell 4).trans (show _ = some (Value.int .u64 (e.vl : Int)) from rfl); have q5 := l5.lt; clear l5)
         go_wp2_with fail
         exact hK.out _ _ ⟨_, rfl, td_op (i := 12) rfl hS, rfl, AllPX.same _⟩
        refine RelyStepsX.cons (RelyStepX.mk [11, 12, 7] [0, 1, 7, 10, 15] rfl rfl rfl (fun xv Lv wS hS hL hLd hV bq hb K hK => ?_)) ?_
        ·obtain ⟨h11, h12, h7, _⟩ := hV
         have h11 : xv 11 = _ := h11
         have h12 : xv 12 = _ := h12
         have h7 : xv 7 = _ := h7
         simp only [putsOf, List.foldl_cons, List.foldl_nil, List.getD_cons_zero, List.getD_cons_succ, List.getD_nil, cond_true, cond_false, Act.put, List.setIfInBounds_toArray, List.set_cons_zero, List.set_cons_succ, h11, h12, h7] at hb
         clear h11
         clear h12
         clear h7
         subst hb
         rw [if_pos (by rfl)]
         obtain ⟨zq, hB⟩ := hS.b1 (hLd 10 (by decide +kernel)) hL
         have HDO := Lib.hid (fbDoG HEE.out (by omega) hB.tw.gf hB.tw.gg)
         rw [HFE.out.1, HFE.out.2] at HDO
         have HA := Lib.hid hB
         have HSS := Lib.hid hS
         clear hS hB
         go_wp2_with fail
         refine HDO.out.mono ?_
         rintro r w' hd
         obtain ⟨rfl, hk, zr, hq⟩ := HA.out.second hd
         exact hK.out _ _ ⟨_, rfl, td_13 HSS.out (hLd 10 (by decide +kernel)) ⟨zq, zr, hq⟩ (hk _ _ _ HSS.out.c (by decide)), rfl, AllPX.of _ (fun j hj _ h => bfV_lit (by rfl) hj h)⟩
        refine RelyStepsX.cons (RelyStepX.mk [10, 13, 7] [0, 1, 7] rfl rfl rfl (fun xv Lv wS hS hL hLd hV bq hb K hK => ?_)) ?_
        ·obtain ⟨h10, h13, h7, _⟩ := hV
         have h10 : xv 10 = _ := h10
         have h13 : xv 13 = _ := h13
         have h7 : xv 7 = _ := h7
         simp only [putsOf, List.foldl_cons, List.foldl_nil, List.getD_cons_zero, List.getD_cons_succ, List.getD_nil, cond_true, cond_false, Act.put, List.setIfInBounds_toArray, List.set_cons_zero, List.set_cons_succ, h10, h13, h7] at hb
         clear h10
         clear h13
         clear h7
         subst hb
         rw [if_pos (by rfl)]
         go_wp2_with fail
         exact hK.out _ _ ⟨_, rfl, td_op (i := 14) rfl hS, by show Value.bool _ = Value.bool false; simp, AllPX.same _⟩
        refine RelyStepsX.cons (RelyStepX.mk [7, 14] [0, 1, 7] rfl rfl rfl (fun xv Lv wS hS hL hLd hV bq hb K hK => ?_)) ?_
        ·obtain ⟨h7, h14, _⟩ := hV
         have h7 : xv 7 = _ := h7
         have h14 : xv 14 = _ := h14
         simp only [putsOf, List.foldl_cons, List.foldl_nil, List.getD_cons_zero, List.getD_cons_succ, List.getD_nil, cond_true, cond_false, Act.put, List.setIfInBounds_toArray, List.set_cons_zero, List.set_cons_succ, h7, h14] at hb
         clear h7
         clear h14
         subst hb
         rw [if_pos (by rfl)]
         go_wp2_with fail
         exact hK.out _ _ ⟨_, rfl, td_op (i := 15) rfl hS, rfl, AllPX.same _⟩
        exact RelyStepsX.nil
       case rE =>
       intro xv Lv wE hS hLall hV
       have h7 := hV 7 (by decide) (by decide)
       have h15 := hV 15 (by decide) (by decide)
       clear hV
       obtain ⟨zq, zr, hT9⟩ := hS.b2 (hLall 13 (by decide +kernel))
       simp only [putsOf, List.foldl_cons, List.foldl_nil, List.getD_cons_zero, List.getD_cons_succ, List.getD_nil, cond_true, cond_false, Act.put, List.setIfInBounds_toArray, List.set_cons_zero, List.set_cons_succ]
       have h7 : xv 7 = _ := h7
       have h15 : xv 15 = _ := h15
       rw [h7]; clear h7
       rw [h15]; clear h15
       generalize xv 0 = y0 at *
       generalize xv 1 = y1 at *
       generalize xv 2 = y2 at *
       generalize xv 3 = y3 at *
       generalize xv 4 = y4 at *
       generalize xv 5 = y5 at *
       generalize xv 6 = y6 at *
       generalize xv 8 = y8 at *
       generalize xv 9 = y9 at *
       generalize xv 10 = y10 at *
       generalize xv 11 = y11 at *
       generalize xv 12 = y12 at *
       generalize xv 13 = y13 at *
       generalize xv 14 = y14 at *
       have HT9 := Lib.hid hT9
       clear hS hLall hT9 HT5 HE5 HEE HFE hab
       generalize wE = w9 at *
       go_wp2
       go_roundw
       case rel => exact ⟨i + 1, f7, zq, zr, by omega, by go_num, HT9, HP7⟩
       case measure => simp [intOf]; omega
      ·obtain rfl : i = l2.length := by omega
       clear hi hlt
       have HS1 := Lib.hid (fbStV HT.out.tw.ff HT.out.tw.fg (by omega) (by rw [HTP.out]; exact ht8) (by rw [HTP.out]; exact hr8))
       go_wp2_with fail
       refine HS1.out.mono ?_
       rintro r w5 ⟨v1, rfl, hv1, hb5⟩
       have HT5 := Lib.hid (HT.out.later hb5)
       have HV1 := Lib.hid hv1
       clear hv1 hb5 HS1 HT
       have HS2 := Lib.hid (fbStV HT5.out.tw.gf HT5.out.tw.gg (by omega) (by rw [HTP.out]; exact ht8) (by rw [HTP.out]; exact hr8))
       go_wp2_with fail
       refine HS2.out.mono ?_
       rintro r w6 ⟨v2, rfl, hv2, hb6⟩
       have HT6 := Lib.hid (HT5.out.later hb6)
       have HSM := Lib.hid (stSameV (HV1.out.below hb6) hv2)
       clear hv2 hb6 HS2 HT5 HV1
       go_wp2_with fail
       refine HSM.out.mono ?_
       rintro r w7 ⟨rfl, hb7⟩
       have HT7 := Lib.hid (HT6.out.later hb7)
       clear hb7 HSM HT6
       go_wp2
       go_ret
       exact ⟨rfl, HT7.out.bel⟩
end Go.Proofs.YtdffpbfebgcmaaaGreat
