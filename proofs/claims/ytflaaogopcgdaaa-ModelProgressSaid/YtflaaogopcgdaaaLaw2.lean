import Derived.Test.YtflaaogopcgdaaaAwake
import Derived.Test.YtflaaogopcgdaaaArgrows
import Derived.Deep.CutBlock
namespace Go.Proofs.Ytflaaogopcgdaaa
open Go.RowKit
set_option linter.unusedVariables false
set_option linter.unusedSimpArgs false
/-- A call of a script. -/
structure Op3 where
  k : Int
  j : Int
  v : Int
instance : Inhabited Op3 := ⟨⟨0, 0, 0⟩⟩
def op3F (o : Op3) : List Value := [.int .i64 o.k, .int .i64 o.j, .int .u64 o.v]
theorem op3F_length (o : Op3) : (op3F o).length = 3 := rfl
def op3Ok (o : Op3) : Prop := -9223372036854775808 ≤ o.k ∧ o.k ≤ 9223372036854775807 ∧ -9223372036854775808 ≤ o.j ∧ o.j ≤ 9223372036854775807 ∧ 0 ≤ o.v ∧ o.v ≤ 18446744073709551615
theorem list3o {l : List Value} (h : l.length = 3) : ∃ a b c, l = [a, b, c] := by
  match l, h with
  | [a, b, c], _ => exact ⟨a, b, c, rfl⟩
set_option maxRecDepth 100000 in
theorem opened24 {W : World} {H : Type} {enc : TypeId × Value → H} {base : Nat} {a : Option Addr} {len cap : Nat} {d : DataW H} {p : List MemPlace}
    (_ : Value.okWide Try.prog W .any base 24 (.slice a len cap)) (h : DataW.Trod enc Try.prog W 0 (fun _ => true) true 24 (.slice a len cap) d p) : ∃ l, ArgOf op3F 3 op3Ok W a len cap l :=
  argOf (sz := 3) Try.underlying24 (by kernel_rfl) (by omega) (fun n cs y hl h => by
    obtain ⟨z0, g0, b0⟩ := int_field (i := 0) (k := .i64) Try.underlying38 h rfl ⟨Try.underlying3, rfl, by kernel_rfl⟩
    obtain ⟨z1, g1, b1⟩ := int_field (i := 1) (k := .i64) Try.underlying38 h rfl ⟨Try.underlying3, rfl, by kernel_rfl⟩
    obtain ⟨z2, g2, b2⟩ := int_field (i := 2) (k := .u64) Try.underlying38 h rfl ⟨Try.underlying36, rfl, by kernel_rfl⟩
    have c0 := Go.bounds_i64 b0
    have c1 := Go.bounds_i64 b1
    have c2 := Go.bounds_u64 b2
    obtain ⟨x0, x1, x2, rfl⟩ := list3o hl
    simp at g0 g1 g2
    subst g0 g1 g2
    exact ⟨⟨z0, z1, z2⟩, rfl, by simp only; omega, by simp only; omega, by simp only; omega, by simp only; omega, by simp only; omega, by simp only; omega⟩) h
/-- A log and a list beside it, both made since wA. -/
def QAt (wA wr : World) (g gb : Nat) (vb : Option Nat) (M : Md) (lv : Value) (l : List Int) : Prop :=
  MdAt wr wA.heap.size g gb vb M ∧ OwnsOff wr wA.heap.size 36 lv l.length (vals l) ∧ (∀ r, lv.ownBlock = some r → r ≠ g ∧ r ≠ gb ∧ vb ≠ some r) ∧ Below wA.heap.size wA wr
section
variable {wA w w' : World} {g gb : Nat} {vb : Option Nat} {M M' : Md} {lv lv' : Value} {l : List Int}
theorem QAt.later (h : QAt wA w g gb vb M lv l) (k : Below w.heap.size w w') : QAt wA w' g gb vb M lv l :=
  ⟨h.1.later k, h.2.1.below k, h.2.2.1, h.2.2.2.trans (k.mono h.2.2.2.size)⟩
theorem QAt.step (h : QAt wA w g gb vb M lv l) (hs : MdStep w w' wA.heap.size g gb vb M') : ∃ vb', QAt wA w' g gb vb' M' lv l := by
  have hb := hs.below h.1 h.2.2.2
  obtain ⟨vb', h1, hk, hv⟩ := hs
  refine ⟨vb', h1, h.2.1.kept hk (fun r e hr => ?_), fun r e => ?_, hb⟩
  · obtain ⟨a, b, c⟩ := h.2.2.1 r e
    rcases hr with hr | hr | hr
    · exact a hr
    · exact b hr
    · exact c hr
  · obtain ⟨a, b, c⟩ := h.2.2.1 r e
    refine ⟨a, b, fun e2 => ?_⟩
    rcases hv with rfl | ⟨k, rfl, hk⟩
    · exact c e2
    · simp only [Option.some.injEq] at e2
      have := (h.2.1.lt r e).2
      omega
theorem QAt.push (h : QAt wA w g gb vb M lv l) {x : Int} (ho : OwnsOff w' wA.heap.size 36 lv' (l.length + 1) (vals l ++ [.int .u64 x])) (hk : Kept (fun k => lv.ownBlock = some k) w w')
    (hn : lv'.ownBlock = lv.ownBlock ∨ ∃ k, lv'.ownBlock = some k ∧ w.heap.size ≤ k) : QAt wA w' g gb vb M lv' (l ++ [x]) := by
  obtain ⟨v1, v2, v3⟩ := h.1.vlt
  refine ⟨h.1.kept hk (fun e => (h.2.2.1 _ e).1 rfl) (fun e => (h.2.2.1 _ e).2.1 rfl) (fun r e e2 => (h.2.2.1 r e2).2.2 e), ?_, fun r e => ?_, ?_⟩
  · rw [← vals_push, show (l ++ [x]).length = l.length + 1 by simp]; exact ho
  · rcases hn with hn | ⟨k, hn, hk2⟩
    · rw [hn] at e; exact h.2.2.1 r e
    · rw [hn] at e
      simp only [Option.some.injEq] at e
      subst e
      refine ⟨by omega, by omega, fun e2 => ?_⟩
      have := v3 k e2
      omega
  · exact h.2.2.2.trans (hk.below h.2.2.2.size (fun i hi e => by have := (h.2.1.lt i e).1; omega))
theorem QAt.cut {A : Option Addr} {c : Nat} (h : QAt wA w g gb vb M (.slice A l.length c) l) (hl : 1 ≤ l.length) : QAt wA w g gb vb M (.slice (if c = 1 then A else A.map (fun x => x.add 1)) (l.length - 1) (c - 1)) (l.drop 1) := by
  have hc := h.2.1.cut 1 hl
  rw [vals_drop] at hc
  refine ⟨h.1, by rw [List.length_drop]; exact hc, fun r e => ?_, h.2.2.2⟩
  rw [cut_block (n := l.length)] at e
  exact h.2.2.1 r e
end
theorem cap_is (a : Int) : ∃ cap : Nat, wrap64 (1 + wrap64 ((IntKind.u64.wrap a).tmod 64)) = (cap : Int) ∧ 1 ≤ cap ∧ cap ≤ 64 := by
  have e0 : 0 ≤ IntKind.u64.wrap a := by rw [IntKind.wrap_u64]; omega
  have e1 : (IntKind.u64.wrap a).tmod 64 = IntKind.u64.wrap a % 64 := Int.tmod_eq_emod_of_nonneg e0
  rw [e1]
  generalize IntKind.u64.wrap a = u at *
  refine ⟨(1 + u % 64).toNat, ?_, by omega, by omega⟩
  unfold wrap64; omega
theorem Lies.step {w w' : World} {B g gb q : Nat} {vb : Option Nat} {M : Md} {t : TypeId} {cs : Array Value} (h : Lies w q t cs) (hs : MdStep w w' B g gb vb M) (h1 : q ≠ g) (h2 : q ≠ gb) (h3 : vb ≠ some q) : Lies w' q t cs := by
  obtain ⟨_, _, hk, _⟩ := hs
  refine h.kept hk (fun hr => ?_)
  rcases hr with hr | hr | hr
  · exact h1 hr
  · exact h2 hr
  · exact h3 hr
set_option maxHeartbeats 4000000 in
set_option maxRecDepth 100000 in
theorem queue_walk (a0 : Int) (a1 : Option Addr) (len1 cap1 : Nat) (ops : List Op3) (w : World) (w0 : (Lit.int .i64 a0).wf = true) (ha : ArgOf op3F 3 op3Ok w a1 len1 cap1 ops) :
    Calls Try.prog 4 #[.int .i64 a0, .slice a1 len1 cap1] w fun e w' => e = .returned (.bool true) ∧ Below w.heap.size w w' := by
  obtain ⟨hn, rfl, hs, hok⟩ := ha
  have hlc := hs.form
  obtain ⟨A', c', e', hc1, hc2, _⟩ := hlc
  simp only [Value.slice.injEq, true_and] at e'
  obtain ⟨rfl, rfl⟩ := e'
  unfold maxLen at hc2
  obtain ⟨cap, hcap, n1, n2⟩ := cap_is a0
  have HN := Lib.hid (fun w => mdNew 1 cap 1 w n1 n2 (by omega) (by omega) (.inl ⟨rfl, rfl⟩))
  have hbA := (Below.refl w.heap.size w).alloc (Nat.le_refl _) (.cells #[.int .i64 1, .int .i64 (cap : Int), .int .i64 1] 23)
  have HBA := Lib.hid hbA
  have LA := Lib.hid (Lies.made w 23 #[.int .i64 1, .int .i64 (cap : Int), .int .i64 1])
  have HS := Lib.hid hs
  have HOK := Lib.hid hok
  clear hok w0 hs hbA hn
  go_enter Try.func4, Try.ntmps4
  go_wp2_with fail
  generalize w.alloc (.cells #[.int .i64 1, .int .i64 (cap : Int), .int .i64 1] 23) = wA at *
  refine (HN.out _).mono ?_
  rintro e w1 ⟨g, gb, rfl, hm1, hb1⟩
  have hq1 : QAt wA w1 g gb none (newM cap 1) (.slice none 0 0) [] := ⟨hm1, OwnsOff.nil _ _ _, fun r e => by simp [Value.ownBlock] at e, hb1⟩
  have HQ1 := Lib.hid hq1
  clear hm1 hb1 hq1 HN hcap
  go_wp2_with fail
  refine (awake_any _).mono ?_
  rintro e w2 ⟨rfl, hb2⟩
  have HQ2 := Lib.hid (HQ1.out.later hb2)
  clear hb2 HQ1
  by_cases h300 : ops.length ≤ 300
  · have hci : ¬ (300 : Int) < (ops.length : Int) := by omega
    go_wp2_with fail
    go_loopw [8, 45] (fun u8 u wr => ∃ (k : Nat) (M : Md) (vb : Option Nat), k ≤ ops.length ∧ u = .int .i64 k ∧ M.cl = false ∧ M.cap = cap ∧ M.G = [M.p] ∧ M.p + M.L.length ≤ k ∧ QAt wA wr g gb vb M u8 M.L) (fun _ u _ => ops.length - (intOf u).toNat)
    case atStart => exact ⟨0, newM cap 1, none, by omega, rfl, rfl, rfl, rfl, Nat.le_refl _, HQ2.out⟩
    case round =>
      clear HQ2
      obtain ⟨k, M, vb, hk, rfl, hcl, hcp, hG, hpl, hq⟩ := hrel
      have hbr := HBA.out.trans (hq.2.2.2.mono HBA.out.size)
      obtain ⟨A, c, rfl, hll, hcc⟩ := hq.2.1.form
      by_cases hlt : k < ops.length
      · have hki : (k : Int) < (ops.length : Int) := by omega
        obtain ⟨x, hx⟩ : ∃ x, ops[k]? = some x := ⟨_, List.getElem?_eq_getElem hlt⟩
        have hxo := HOK.out x (List.mem_of_getElem? hx)
        obtain ⟨b, off, rfl, hbl, gx⟩ := SeqS.at_ op3F_length (by decide) (HS.out.later hbr) hx
        have x0 := gx 0 _ (by decide) rfl
        have x1 := gx 1 _ (by decide) rfl
        have x2 := gx 2 _ (by decide) rfl
        rw [Nat.add_zero] at x0
        have hbq : Below wr.heap.size wr (wr.alloc (.cells #[.int .i64 x.k, .int .i64 x.j, .int .u64 x.v] 38)) := (Below.refl _ _).alloc (Nat.le_refl _) _
        have lq := Lies.made wr 38 #[.int .i64 x.k, .int .i64 x.j, .int .u64 x.v]
        have hq1 := hq.later hbq
        obtain ⟨v1, v2, v3⟩ := hq.1.vlt
        have hwA : w.heap.size < wA.heap.size := LA.out.lt
        have hqn : wr.heap.size ≠ g ∧ wr.heap.size ≠ gb ∧ vb ≠ some wr.heap.size := ⟨by omega, by omega, fun e => by have := v3 _ e; omega⟩
        have HQ1 := Lib.hid hq1
        have LQ := Lib.hid lq
        have HQN := Lib.hid hqn
        have HGG := Lib.hid hG
        have hbrs := hq.2.2.2.size
        clear hq hq1 lq hbq hqn hx hxo gx hbl v1 v2 v3
        by_cases h2 : (x.k.tmod 2 == 0) = true
        · have HP := Lib.hid (mdPut x.v HQ1.out.1 (by omega))
          go_wp2_with fail
          refine HP.out.mono ?_
          rintro e w3 ⟨rfl, hst⟩
          obtain ⟨vb3, hq3⟩ := HQ1.out.step hst
          have lq3 := LQ.out.step hst HQN.out.1 HQN.out.2.1 HQN.out.2.2
          have la3 := LA.out.below hq3.2.2.2 LA.out.lt
          have y2 := (lq3.cell 2).trans (show _ = some (Value.int .u64 x.v) from rfl)
          have z1 := (la3.cell 1).trans (show _ = some (Value.int .i64 (cap : Int)) from rfl)
          have hlq3 := lq3.lt
          have hla3 := la3.lt
          clear hst lq3 la3 HP HQ1 x0 x1 x2 HQN
          by_cases hf : cap ≤ M.L.length
          · have hE : mputE M = 8 := by unfold mputE; rw [hcl, if_neg (by decide), hcp, if_pos hf]
            have hM : mputM M x.v = M := by unfold mputM; rw [hE, if_neg (by decide)]
            rw [hM] at hq3
            rw [hE]
            have hdl : decide (M.L.length < cap) = false := by rw [decide_eq_false_iff_not]; omega
            have HQ3 := Lib.hid hq3
            clear hq3 hE hM
            go_wp2
            go_roundw
            case rel => exact ⟨k + 1, M, vb3, by omega, by go_num, hcl, hcp, HGG.out, by omega, HQ3.out⟩
            case measure => simp [intOf]; omega
          · have hE : mputE M = 0 := by unfold mputE; rw [hcl, if_neg (by decide), hcp, if_neg hf]
            have hM : mputM M x.v = { M with L := M.L ++ [x.v] } := by unfold mputM; rw [hE, if_pos rfl]
            rw [hM] at hq3
            rw [hE]
            have hdl : decide (M.L.length < cap) = true := by rw [decide_eq_true_eq]; omega
            have HQ3 := Lib.hid hq3
            have HO3 := Lib.hid hq3.2.1
            have hw3 := hq3.2.2.2.size
            clear hq3 hE hM
            go_wp2_with (at_builtin; refine append_off _ (.int .u64 x.v) rfl (.tmp 70) (.tmp 73) 31 rfl wA.heap.size 36 _ 8 Try.underlying31 Try.infoU64 rfl rfl (.slice A M.L.length c) M.L.length (vals M.L) rfl HO3.out rfl (by unfold maxLen; omega) (by omega) hw3 ?_)
            intro v' w4 ho4 hk4 hv4
            have hq4 := HQ3.out.push ho4 hk4 hv4
            have HQ4 := Lib.hid hq4
            clear ho4 hk4 hv4 hq4 HQ3 HO3
            go_wp2
            go_roundw
            case rel => exact ⟨k + 1, { M with L := M.L ++ [x.v] }, vb3, by omega, by go_num, hcl, hcp, HGG.out, by simp; omega, HQ4.out⟩
            case measure => simp [intOf]; omega
        · have h2 : (x.k.tmod 2 == 0) = false := by simpa using h2
          have hr : readsM M 0 = true := decide_eq_true ⟨by omega, by rw [hG]; simp⟩
          have hg : gotM M 0 = M.p := by unfold gotM; rw [hG]; rfl
          have hR : restM M 0 = M.L := by unfold restM; rw [hg, Nat.sub_self]; rfl
          have HP := Lib.hid (mdGet 0 HQ1.out.1)
          by_cases hL : M.L = []
          · have hE : mgetE M 0 = 9 := by unfold mgetE; rw [hr, if_pos rfl, hR, if_pos hL, hcl]; rfl
            have hV : mgetV M 0 = 0 := by unfold mgetV; rw [hE, if_neg (by decide)]
            have hM : mgetM M 0 = M := by unfold mgetM; rw [hE, if_neg (by decide)]
            have hL0 : M.L.length = 0 := by rw [hL]; rfl
            rw [hE, hV, hM] at HP
            clear hE hV hM hr hg hR hL
            go_wp2_with fail
            refine HP.out.mono ?_
            rintro e w3 ⟨rfl, hst⟩
            obtain ⟨vb3, hq3⟩ := HQ1.out.step hst
            have HQ3 := Lib.hid hq3
            clear hst hq3 HP HQ1 HQN x0 x1 x2
            go_wp2
            go_roundw
            case rel => exact ⟨k + 1, M, vb3, by omega, by go_num, hcl, hcp, HGG.out, by omega, by have h := HQ3.out; rwa [hL0] at h⟩
            case measure => simp [intOf]; omega
          · have hl1 : 1 ≤ M.L.length := List.length_pos_iff.2 hL
            obtain ⟨v, hv⟩ : ∃ v, M.L[0]? = some v := ⟨_, List.getElem?_eq_getElem hl1⟩
            have hE : mgetE M 0 = 0 := by unfold mgetE; rw [hr, if_pos rfl, hR, if_neg hL]
            have hV : mgetV M 0 = v := by unfold mgetV; rw [hE, if_pos rfl, hR, List.headD_eq_head?_getD, List.head?_eq_getElem?, hv]; rfl
            have hM : mgetM M 0 = { M with L := M.L.drop 1, p := M.p + 1, G := [M.p + 1] } := by
              unfold mgetM
              rw [hE, if_pos rfl]
              have h1 : (stepG M 0).G = [M.p + 1] := by unfold stepG; simp only; rw [hG, hg]; rfl
              have h2 : leastG [M.p + 1] = M.p + 1 := by unfold leastG; simp
              unfold dropM
              rw [h1, h2]
              unfold stepG
              simp only
              rw [show M.p + 1 - M.p = 1 by omega]
            rw [hE, hV, hM] at HP
            have HV := Lib.hid hv
            clear hE hV hM hr hg hR hL hv
            go_wp2_with fail
            refine HP.out.mono ?_
            rintro e w3 ⟨rfl, hst⟩
            obtain ⟨vb3, hq3⟩ := HQ1.out.step hst
            obtain ⟨b1, o1, hA, _, d0⟩ := hq3.2.1.seq.get (Below.refl _ _) (k := 0) (u := .int .u64 v) (by unfold vals; rw [List.getElem?_map, HV.out]; rfl)
            rw [Nat.add_zero] at d0
            have hqc := hq3.cut hl1
            subst hA
            simp only [Option.map_some, addr_plus] at hqc
            have HQ3 := Lib.hid hqc
            have hli : (0 : Int) < (M.L.length : Int) := by omega
            clear hst hq3 HP HQ1 HQN hqc x0 x1 x2
            go_wp2
            go_roundw
            case rel => exact ⟨k + 1, { M with L := M.L.drop 1, p := M.p + 1, G := [M.p + 1] }, vb3, by omega, by go_num, hcl, hcp, rfl, by simp only [List.length_drop]; omega, HQ3.out⟩
            case measure => simp [intOf]; omega
      · obtain rfl : k = ops.length := by omega
        have hr : readsM M 0 = true := decide_eq_true ⟨by omega, by rw [hG]; simp⟩
        have hg : gotM M 0 = M.p := by unfold gotM; rw [hG]; rfl
        have hR : leftM M 0 = M.L := by unfold leftM restM; rw [hr, if_pos rfl, hg, Nat.sub_self]; rfl
        have hP := mdLeft 0 hq.1
        rw [hR] at hP
        have HP := Lib.hid hP
        have HQ := Lib.hid hq
        have HBR := Lib.hid hbr
        clear hP hr hg hR hq hbr hcl hcp hG
        go_wp2_with fail
        refine HP.out.mono ?_
        rintro e w3 ⟨A1, c1, rfl, ho3, hb3⟩
        have HSM := Lib.hid (refSame _ _ M.L M.L w3 (SeqAt.of_owns ho3) (HQ.out.2.1.seq.later_ hb3))
        have HB3 := Lib.hid (HBR.out.trans (hb3.mono HBR.out.size))
        clear ho3 hb3
        go_wp2_with fail
        refine HSM.out.mono ?_
        rintro e w4 ⟨rfl, n, rfl⟩
        go_wp2
        go_ret
        exact ⟨ret_bool (by simp), below_drewN HB3.out n⟩
  · have hci : (300 : Int) < (ops.length : Int) := by omega
    have hb2 := HBA.out.trans (HQ2.out.2.2.2.mono HBA.out.size)
    go_wp2_with fail
    refine (awake_any _).mono ?_
    rintro e w3 ⟨rfl, hb3⟩
    have hb3 := hb2.trans (hb3.mono hb2.size)
    go_wp2
    go_ret
    exact ⟨rfl, hb3⟩
end Go.Proofs.Ytflaaogopcgdaaa
