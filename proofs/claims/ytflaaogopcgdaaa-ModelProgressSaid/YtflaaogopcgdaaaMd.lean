/-
  The bounded log: how it stands, and what its calls do.
-/
import Derived.Test.YtflaaogopcgdaaaOff
import Derived.Test.YtflaaogopcgdaaaSame
import Derived.Test.YtflaaogopcgdaaaRows
namespace Go.Proofs.Ytflaaogopcgdaaa
open Go.RowKit
set_option linter.unusedVariables false
set_option linter.unusedSimpArgs false
structure Md where
  cap : Nat
  cl : Bool
  p : Nat
  L : List Int
  G : List Nat
def MdOk (M : Md) : Prop := 1 ≤ M.cap ∧ M.cap ≤ 64 ∧ 1 ≤ M.G.length ∧ M.G.length ≤ 8 ∧ M.L.length ≤ M.cap ∧ (∀ x ∈ M.G, M.p ≤ x ∧ x ≤ M.p + M.L.length) ∧ M.p + M.L.length ≤ 4611686018427387904
abbrev mdV (M : Md) (A : Option Addr) (c gb cg : Nat) : Array Value := #[.int .i64 (M.cap : Int), .bool M.cl, .int .u64 (M.p : Int), .slice A M.L.length c, .slice (some ⟨gb, 0, none⟩) M.G.length cg]
def MdAt (w : World) (B g gb : Nat) (vb : Option Nat) (M : Md) : Prop :=
  MdOk M ∧ B ≤ g ∧ B ≤ gb ∧ g ≠ gb ∧ vb ≠ some g ∧ vb ≠ some gb ∧ ∃ A c cg, Lies w g 68 (mdV M A c gb cg) ∧ OwnsOff w B 36 (.slice A M.L.length c) M.L.length (vals M.L) ∧
    w.ownsRow B 36 1 (.slice (some ⟨gb, 0, none⟩) M.G.length cg) M.G.length (cells64 M.G) ∧ (Value.slice A M.L.length c).ownBlock = vb
def mdS (g gb : Nat) (vb : Option Nat) : Nat → Prop := fun k => k = g ∨ k = gb ∨ vb = some k
def VbNext (w : World) (vb vb' : Option Nat) : Prop := vb' = vb ∨ ∃ k, vb' = some k ∧ w.heap.size ≤ k
/-- What a call leaves. -/
def MdStep (w w' : World) (B g gb : Nat) (vb : Option Nat) (M : Md) : Prop := ∃ vb', MdAt w' B g gb vb' M ∧ Kept (mdS g gb vb) w w' ∧ VbNext w vb vb'
def readsM (M : Md) (j : Int) : Bool := decide (0 ≤ j ∧ j < M.G.length)
def gotM (M : Md) (j : Int) : Nat := M.G.getD j.toNat 0
def restM (M : Md) (j : Int) : List Int := M.L.drop (gotM M j - M.p)
theorem vals_length (l : List Int) : (vals l).length = l.length := by simp [vals]
theorem vals_drop (l : List Int) (k : Nat) : (vals l).drop k = vals (l.drop k) := by simp [vals]
theorem got_get {M : Md} {j : Int} (h : readsM M j = true) : M.G[j.toNat]? = some (gotM M j) ∧ j.toNat < M.G.length := by
  have h := of_decide_eq_true h
  have hl : j.toNat < M.G.length := by omega
  refine ⟨?_, hl⟩
  unfold gotM
  rw [List.getD_eq_getElem?_getD, List.getElem?_eq_getElem hl]; rfl
section
variable {w w' : World} {B g gb : Nat} {vb : Option Nat} {M : Md}
theorem MdAt.kept {S : Nat → Prop} (h : MdAt w B g gb vb M) (k : Kept S w w') (h1 : ¬ S g) (h2 : ¬ S gb) (h3 : ∀ r, vb = some r → ¬ S r) : MdAt w' B g gb vb M := by
  obtain ⟨a1, a2, a3, a4, a5, a6, A, c, cg, a7, a8, a9, rfl⟩ := h
  refine ⟨a1, a2, a3, a4, a5, a6, A, c, cg, a7.kept k h1, a8.kept k (fun r e => h3 r e), owns_kept a9 k (fun r cur e hl => ?_), rfl⟩
  simp only [Value.ownBlock, Option.some.injEq] at e
  rw [← e]; exact h2
theorem MdAt.later (h : MdAt w B g gb vb M) (k : Below w.heap.size w w') : MdAt w' B g gb vb M := h.kept (Kept.of_below k) (fun f => f) (fun f => f) (fun _ _ f => f)
theorem MdAt.lt (h : MdAt w B g gb vb M) : g < w.heap.size := by obtain ⟨_, _, _, _, _, _, A, c, cg, a7, _⟩ := h; exact a7.lt
set_option maxHeartbeats 1000000 in
theorem mdReads (j : Int) (h : MdAt w B g gb vb M) :
    Calls Try.prog 26 #[.pointer (some ⟨g, 0, none⟩), .int .i64 j] w fun e w' => e = .returned (.bool (readsM M j)) ∧ w' = w := by
  obtain ⟨hok, a2, a3, a4, a5, a6, A, c, cg, hl, ho, hg, rfl⟩ := h
  have c4 := (hl.cell 4).trans (show _ = some (Value.slice (some ⟨gb, 0, none⟩) M.G.length cg) from rfl)
  have hlt := hl.lt
  clear ho hg hl hok
  by_cases h1 : 0 ≤ j
  · by_cases h2 : j < (M.G.length : Int)
    · have HR : Hid (readsM M j = true) := decide_eq_true ⟨h1, h2⟩
      go_enter Try.func26, Try.ntmps26
      go_wp2
      go_ret
      exact ⟨ret_bool HR.out.symm, rfl⟩
    · have HR : Hid (readsM M j = false) := decide_eq_false (fun h => h2 h.2)
      go_enter Try.func26, Try.ntmps26
      go_wp2
      go_ret
      exact ⟨ret_bool HR.out.symm, rfl⟩
  · have HR : Hid (readsM M j = false) := decide_eq_false (fun h => h1 h.1)
    go_enter Try.func26, Try.ntmps26
    go_wp2
    go_ret
    exact ⟨ret_bool HR.out.symm, rfl⟩
set_option maxHeartbeats 1000000 in
theorem mdRest (j : Int) (h : MdAt w B g gb vb M) (hr : readsM M j = true) :
    Calls Try.prog 27 #[.pointer (some ⟨g, 0, none⟩), .int .i64 j] w fun e w' => ∃ A c, e = .returned (.slice A (restM M j).length c) ∧ SeqAt w' (.slice A (restM M j).length c) (vals (restM M j)) ∧ (A = none → (restM M j).length = 0 ∧ c = 0) ∧ ∃ n, w' = w.drewN n := by
  obtain ⟨hok, a2, a3, a4, a5, a6, A, c, cg, hl, ho, hg, rfl⟩ := h
  obtain ⟨g1, g2⟩ := got_get hr
  obtain ⟨b1, b2⟩ := hok.2.2.2.2.2.1 _ (List.mem_of_getElem? g1)
  have b3 := hok.2.2.2.2.2.2
  have b4 := hok.2.2.2.2.1
  have b5 := hok.2.2.2.1
  have b6 := hok.2.1
  obtain ⟨m, rfl⟩ : ∃ m : Nat, j = m := ⟨j.toNat, by have := of_decide_eq_true hr; omega⟩
  rw [Int.toNat_natCast] at g1 g2
  have hm : (m : Int) < (M.G.length : Int) := by omega
  have c2 := (hl.cell 2).trans (show _ = some (Value.int .u64 (M.p : Int)) from rfl)
  have c3 := (hl.cell 3).trans (show _ = some (Value.slice A M.L.length c) from rfl)
  have c4 := (hl.cell 4).trans (show _ = some (Value.slice (some ⟨gb, 0, none⟩) M.G.length cg) from rfl)
  have cg1 := owns_cell hg (cells64_get g1)
  have hlt := hl.lt
  obtain ⟨A', c', e, hcc, hcm⟩ := ho.form
  simp only [Value.slice.injEq, true_and] at e
  obtain ⟨rfl, rfl⟩ := e
  have hcut := ho.cut (gotM M m - M.p) (by omega)
  rw [vals_drop] at hcut
  have hsq := hcut.seq
  have hnn := hcut.none_
  have hcn : (M.L.drop (gotM M m - M.p)).length = M.L.length - (gotM M m - M.p) := by rw [List.length_drop]
  have HSQ : Hid (SeqAt w (.slice (if c = gotM M m - M.p then A else A.map (fun x => x.add (gotM M m - M.p))) (M.L.length - (gotM M m - M.p)) (c - (gotM M m - M.p))) (vals (restM M m))) := hsq
  have HCN : Hid ((restM M m).length = M.L.length - (gotM M m - M.p)) := hcn
  have hws : IntKind.u64.wrap ((gotM M m : Int) - (M.p : Int)) = ((gotM M m - M.p : Nat) : Int) := by rw [IntKind.wrap_u64]; omega
  obtain ⟨d, hd⟩ : ∃ d, gotM M m - M.p = d := ⟨_, rfl⟩
  have hdl : d ≤ M.L.length := by omega
  rw [hd] at HSQ HCN hws hnn
  obtain ⟨A5, hA5⟩ : ∃ A5, (if c = d then A else A.map (fun x => x.add d)) = A5 := ⟨_, rfl⟩
  rw [hA5] at HSQ hnn
  have HNN := Lib.hid hnn
  unfold maxLen at hcm
  clear hsq hcut hcn ho hg hl hok g1 hd hnn
  go_enter Try.func27, Try.ntmps27
  go_wp2_with fail
  go_quiet (fail)
  go_wp2
  go_ret
  exact ⟨A5, c - d, by rw [HCN.out]; rfl, by rw [HCN.out]; exact HSQ.out, by rw [HCN.out]; exact HNN.out, nq, rfl⟩
end
/-! ## Put -/
def mputE (M : Md) : Nat := if M.cl = true then 10 else if M.cap ≤ M.L.length then 8 else 0
def mputV (M : Md) : Nat := if mputE M = 0 then M.p + M.L.length else 0
def mputM (M : Md) (v : Int) : Md := if mputE M = 0 then { M with L := M.L ++ [v] } else M
theorem vals_push (l : List Int) (v : Int) : vals l ++ [.int .u64 v] = vals (l ++ [v]) := by simp [vals]
theorem MdStep.same {w w' : World} {B g gb : Nat} {vb : Option Nat} {M : Md} (h : MdAt w B g gb vb M) (k : Below w.heap.size w w') : MdStep w w' B g gb vb M :=
  ⟨vb, h.later k, (Kept.of_below k).mono (fun _ _ f => f.elim), .inl rfl⟩
section
variable {w w' : World} {B g gb : Nat} {vb : Option Nat} {M : Md}
set_option maxHeartbeats 1000000 in
theorem mdPut (v : Int) (h : MdAt w B g gb vb M) (hp : M.p + M.L.length < 4611686018427387904) :
    Calls Try.prog 13 #[.pointer (some ⟨g, 0, none⟩), .int .u64 v] w fun e w' => e = .returned (.tuple #[.int .u64 (mputV M : Nat), .int .i64 (mputE M : Nat)]) ∧ MdStep w w' B g gb vb (mputM M v) := by
  have HH := Lib.hid h
  obtain ⟨hok, a2, a3, a4, a5, a6, A, c, cg, hl, ho, hg, rfl⟩ := h
  have b4 := hok.2.2.2.2.1
  have b6 := hok.2.1
  have c0 := (hl.cell 0).trans (show _ = some (Value.int .i64 (M.cap : Int)) from rfl)
  have c1 := (hl.cell 1).trans (show _ = some (Value.bool M.cl) from rfl)
  have c2 := (hl.cell 2).trans (show _ = some (Value.int .u64 (M.p : Int)) from rfl)
  have c3 := (hl.cell 3).trans (show _ = some (Value.slice A M.L.length c) from rfl)
  have hlt := hl.lt
  by_cases hcl : M.cl = true
  · have hE : mputE M = 10 := by unfold mputE; rw [if_pos hcl]
    have HV : Hid (mputV M = 0) := by show _ = _; unfold mputV; rw [hE, if_neg (by decide)]
    have HM : Hid (mputM M v = M) := by show _ = _; unfold mputM; rw [hE, if_neg (by decide)]
    have HE := Lib.hid hE
    rw [hcl] at c1
    clear hE ho hg hl hok hcl a5 a6
    go_enter Try.func13, Try.ntmps13
    go_wp2
    go_ret2
    exact ⟨by rw [HE.out, HV.out]; rfl, by rw [HM.out]; exact .same HH.out (Below.refl _ _)⟩
  · have hcl : M.cl = false := by simpa using hcl
    by_cases hf : M.cap ≤ M.L.length
    · have hE : mputE M = 8 := by unfold mputE; rw [if_neg (by simp [hcl]), if_pos hf]
      have HV : Hid (mputV M = 0) := by show _ = _; unfold mputV; rw [hE, if_neg (by decide)]
      have HM : Hid (mputM M v = M) := by show _ = _; unfold mputM; rw [hE, if_neg (by decide)]
      have HE := Lib.hid hE
      rw [hcl] at c1
      have hfi : decide ((M.cap : Int) ≤ (M.L.length : Int)) = true := by rw [decide_eq_true_eq]; omega
      clear hE ho hg hl hok hcl a5 a6
      go_enter Try.func13, Try.ntmps13
      go_wp2_with fail
      go_quiet (fail)
      go_wp2
      go_ret2
      exact ⟨by rw [HE.out, HV.out]; rfl, by rw [HM.out]; exact .same HH.out (below_drewN (Below.refl _ _) _)⟩
    · have hE : mputE M = 0 := by unfold mputE; rw [if_neg (by simp [hcl]), if_neg hf]
      have HV : Hid (mputV M = M.p + M.L.length) := by show _ = _; unfold mputV; rw [hE, if_pos rfl]
      have HM : Hid (mputM M v = { M with L := M.L ++ [v] }) := by show _ = _; unfold mputM; rw [hE, if_pos rfl]
      have HE := Lib.hid hE
      rw [hcl] at c1
      have hfi : decide ((M.cap : Int) ≤ (M.L.length : Int)) = false := by rw [decide_eq_false_iff_not]; omega
      have hws : IntKind.u64.wrap ((M.L.length : Nat) : Int) = (M.L.length : Int) := by rw [IntKind.wrap_u64]; omega
      have hwt : IntKind.u64.wrap ((M.p : Int) + (M.L.length : Int)) = (M.p : Int) + (M.L.length : Int) := by rw [IntKind.wrap_u64]; omega
      have HO := Lib.hid ho
      have HL := Lib.hid hl
      have HG := Lib.hid hg
      have HOK := Lib.hid hok
      have A5 := Lib.hid a5
      have A6 := Lib.hid a6
      clear hE ho hg hl hok hcl a5 a6
      go_enter Try.func13, Try.ntmps13
      go_wp2_with fail
      go_quiet (fail)
      go_wp2_with fail
      go_quiet (fail)
      go_wp2_with (at_builtin; refine append_off _ (.int .u64 v) rfl (.tmp 41) (.tmp 43) 31 rfl B 36 _ 8 Try.underlying31 Try.infoU64 rfl rfl (.slice A M.L.length c) M.L.length (vals M.L) rfl HO.out rfl (by unfold maxLen; omega) (by omega) (by simp; omega) ?_)
      intro v' w1 ho1 hk1 hv1
      rw [vals_push] at ho1
      have hk1 := (Kept.drewN (fun k => (Value.slice A M.L.length c).ownBlock = some k) w _).trans hk1 (fun _ _ h => h)
      have e1 : (M.L ++ [v]).length = M.L.length + 1 := by simp
      obtain ⟨A', c', rfl, hcc, hcm⟩ := ho1.form
      have hl1 := HL.out.kept hk1 A5.out
      have hg1 := owns_kept HG.out hk1 (fun r cur e hl hr => by
        simp only [Value.ownBlock, Option.some.injEq] at e
        subst e
        exact A6.out hr)
      have d3 := (hl1.cell 3).trans (show _ = some (Value.slice A M.L.length c) from rfl)
      have f3 := hl1.free 3
      have hlt1 := hl1.lt
      have hkp := Kept.put w1 g 3 (.slice A' (M.L.length + 1) c')
      have hne : (Value.slice A' (M.L.length + 1) c').ownBlock ≠ some g ∧ (Value.slice A' (M.L.length + 1) c').ownBlock ≠ some gb := by
        have hgl := (HG.out.lt gb rfl).2
        rcases hv1 with hv1 | ⟨k, hv1, hk⟩
        · rw [hv1]; exact ⟨A5.out, A6.out⟩
        · rw [hv1]
          have hk : w.heap.size ≤ k := hk
          simp only [ne_eq, Option.some.injEq]
          have hgl : gb < w.heap.size := hgl
          omega
      have ho2 := ho1.kept hkp (fun r e (hr : r = g) => by subst hr; exact hne.1 e)
      have hg2 := owns_kept hg1 hkp (fun r cur e hl (hr : r = g) => by
        simp only [Value.ownBlock, Option.some.injEq] at e
        omega)
      have hl2 := hl1.put 3 (.slice A' (M.L.length + 1) c')
      have hst : MdStep w (w1.setCell ⟨g, 3, none⟩ (.slice A' (M.L.length + 1) c')) B g gb ((Value.slice A M.L.length c).ownBlock) { M with L := M.L ++ [v] } := by
        obtain ⟨o1, o2, o3, o4, o5, o6, o7⟩ := HOK.out
        refine ⟨_, ⟨⟨o1, o2, o3, o4, by simp only; omega, fun x hx => by have := o6 x hx; simp only; omega, by simp only; omega⟩, a2, a3, a4, hne.1, hne.2, A', c', cg, ?_, ?_, hg2, ?_⟩, (hk1.mono (fun i _ e => .inr (.inr e))).trans hkp (fun i _ (e : i = g) => .inl e), ?_⟩
        · unfold mdV; rw [e1]; exact hl2
        · simp only; rw [e1]; exact ho2
        · simp only; rw [e1]
        · rcases hv1 with hv1 | ⟨k, hv1, hk⟩
          · exact .inl hv1
          · exact .inr ⟨k, hv1, hk⟩
      have HST := Lib.hid hst
      clear hst hl1 hg1 hkp hne ho2 hg2 hl2 ho1 hk1 hv1 HO HL HG HOK A5 A6
      go_wp2
      go_ret2
      exact ⟨by rw [HE.out, HV.out]; rfl, by rw [HM.out]; exact HST.out⟩
end
end Go.Proofs.Ytflaaogopcgdaaa
