import Derived.Test.YtakggmfpgopcgaaZz1
namespace Go.Proofs.Ytakggmfpgopcgaa
open Go.RowKit
set_option linter.unusedVariables false
set_option linter.unusedSimpArgs false
structure Rs where
 tl : Nat
 hs : List Nat
 cl : Bool
 sl : List Sl
structure Sta where
 th : List Th
 rg : List Rs
 now : Nat
 rds : Nat
 en : Bool
def thP (p : Th × Value) : List Value := (thC p.1 p.2).toList
theorem thP_length (p : Th × Value) : (thP p).length = 14 := rfl
def rgP (q : Rs × Value × Value) : List Value := [.int .u64 (q.1.tl : Int), q.2.1, .bool q.1.cl, q.2.2]
theorem rgP_length (q : Rs × Value × Value) : (rgP q).length = 4 := rfl
abbrev stC (tv rv : Value) (now rds : Nat) (en : Bool) : Array Value := #[tv, rv, .int .u64 (now : Int), .int .u64 (rds : Int), .bool en]
def slB (x : Sl) : Prop := x.s < M64 ∧ x.v < M64 ∧ -9223372036854775808 ≤ x.l ∧ x.l ≤ 9223372036854775807
def rsB (x : Rs) : Prop := x.tl < M64 ∧ (∀ n ∈ x.hs, n < M64) ∧ ∀ y ∈ x.sl, slB y
structure StOk (S : Sta) : Prop where
 th : ∀ x ∈ S.th, thOk x
 rg : ∀ x ∈ S.rg, rsB x
 now : S.now < M64
 rds : S.rds < M64
def ThsR (w : World) (v : Value) (l : List Th) : Prop := ∃ ps : List (Th × Value), ps.map (·.1) = l ∧ SeqS w 14 v l.length (rowsOf thP ps) ∧ ∀ p ∈ ps, SeqS w 1 p.2 p.1.sn.length (cells64 p.1.sn)
def RgsR (w : World) (v : Value) (l : List Rs) : Prop := ∃ qs : List (Rs × Value × Value), qs.map (·.1) = l ∧ SeqS w 4 v l.length (rowsOf rgP qs) ∧ ∀ q ∈ qs, SeqS w 1 q.2.1 q.1.hs.length (cells64 q.1.hs) ∧ SeqS w 3 q.2.2 q.1.sl.length (rowsOf slF q.1.sl)
section
variable {w w' : World} {v : Value} {n c i : Nat} {A : Option Addr}
theorem ThsR.later {l : List Th} (h : ThsR w v l) (hb : Below w.heap.size w w') : ThsR w' v l := by
 obtain ⟨ps, h1, h2, h3⟩ := h
 exact ⟨ps, h1, h2.later hb, fun p hp => (h3 p hp).later hb⟩
theorem RgsR.later {l : List Rs} (h : RgsR w v l) (hb : Below w.heap.size w w') : RgsR w' v l := by
 obtain ⟨ps, h1, h2, h3⟩ := h
 exact ⟨ps, h1, h2.later hb, fun p hp => ⟨(h3 p hp).1.later hb, (h3 p hp).2.later hb⟩⟩
theorem ThsR.form {l : List Th} (h : ThsR w v l) : ∃ A c, v = .slice A l.length c ∧ l.length ≤ c ∧ c ≤ 9223372036854775807 := by
 obtain ⟨ps, h1, h2, h3⟩ := h
 obtain ⟨A, c, e, h4, h5, _⟩ := h2.form
 unfold maxLen at h5
 exact ⟨A, c, e, h4, by omega⟩
theorem RgsR.form {l : List Rs} (h : RgsR w v l) : ∃ A c, v = .slice A l.length c ∧ l.length ≤ c ∧ c ≤ 9223372036854775807 := by
 obtain ⟨ps, h1, h2, h3⟩ := h
 obtain ⟨A, c, e, h4, h5, _⟩ := h2.form
 unfold maxLen at h5
 exact ⟨A, c, e, h4, by omega⟩
theorem ThsR.caps {l : List Th} (h : ThsR w (.slice A n c) l) : l.length ≤ c ∧ c ≤ 9223372036854775807 := by
 obtain ⟨A2, c2, e, h1, h2⟩ := h.form
 simp only [Value.slice.injEq] at e
 obtain ⟨_, _, rfl⟩ := e
 exact ⟨h1, h2⟩
theorem RgsR.caps {l : List Rs} (h : RgsR w (.slice A n c) l) : l.length ≤ c ∧ c ≤ 9223372036854775807 := by
 obtain ⟨A2, c2, e, h1, h2⟩ := h.form
 simp only [Value.slice.injEq] at e
 obtain ⟨_, _, rfl⟩ := e
 exact ⟨h1, h2⟩
theorem ThsR.at_ {l : List Th} {x : Th} (h : ThsR w (.slice A n c) l) (hx : l[i]? = some x) : ∃ T o S d, A = some ⟨T, o, none⟩ ∧ T < w.heap.size ∧ (∀ (j : Nat) (u : Value), (thP (x, Value.slice S x.sn.length d))[j]? = some u → w.cell? ⟨T, o + i * 14 + j, none⟩ = some u) ∧
  SeqS w 1 (.slice S x.sn.length d) x.sn.length (cells64 x.sn) ∧ x.sn.length ≤ d ∧ d ≤ 9223372036854775807 := by
 obtain ⟨ps, h1, h2, h3⟩ := h
 rw [← h1, List.getElem?_map] at hx
 obtain ⟨q, hq, rfl⟩ := Option.map_eq_some_iff.1 hx
 obtain ⟨A', c', e, _⟩ := h2.form
 simp only [Value.slice.injEq] at e
 obtain ⟨rfl, rfl, rfl⟩ := e
 have h4 := h3 q (List.mem_of_getElem? hq)
 obtain ⟨S, d, e, h5, h6, _⟩ := h4.form
 unfold maxLen at h6
 obtain ⟨T, o, e2, h7, h8⟩ := SeqS.at_ thP_length (by decide) h2 hq
 have eq : q = (q.1, Value.slice S q.1.sn.length d) := by rw [← e]
 rw [e] at h4
 refine ⟨T, o, S, d, e2, h7, fun j u hu => ?_, h4, h5, by omega⟩
 have hj : j < 14 := by have := (List.getElem?_eq_some_iff.1 hu).1; rw [thP_length] at this; exact this
 exact h8 j u hj (by rw [eq]; exact hu)
theorem RgsR.at_ {l : List Rs} {x : Rs} (h : RgsR w (.slice A n c) l) (hx : l[i]? = some x) : ∃ T o S1 d1 S2 d2, A = some ⟨T, o, none⟩ ∧ T < w.heap.size ∧ (∀ (j : Nat) (u : Value), (rgP (x, Value.slice S1 x.hs.length d1, Value.slice S2 x.sl.length d2))[j]? = some u → w.cell? ⟨T, o + i * 4 + j, none⟩ = some u) ∧
  (SeqS w 1 (.slice S1 x.hs.length d1) x.hs.length (cells64 x.hs) ∧ x.hs.length ≤ d1 ∧ d1 ≤ 9223372036854775807) ∧ SeqS w 3 (.slice S2 x.sl.length d2) x.sl.length (rowsOf slF x.sl) ∧ x.sl.length ≤ d2 ∧ d2 ≤ 9223372036854775807 := by
 obtain ⟨ps, h1, h2, h3⟩ := h
 rw [← h1, List.getElem?_map] at hx
 obtain ⟨q, hq, rfl⟩ := Option.map_eq_some_iff.1 hx
 obtain ⟨A', c', e, _⟩ := h2.form
 simp only [Value.slice.injEq] at e
 obtain ⟨rfl, rfl, rfl⟩ := e
 obtain ⟨h4, h5⟩ := h3 q (List.mem_of_getElem? hq)
 obtain ⟨S1, d1, e1, a1, a2, _⟩ := h4.form
 obtain ⟨S2, d2, e2, b1, b2, _⟩ := h5.form
 unfold maxLen at a2 b2
 obtain ⟨T, o, e3, h7, h8⟩ := SeqS.at_ rgP_length (by decide) h2 hq
 have eq : q = (q.1, Value.slice S1 q.1.hs.length d1, Value.slice S2 q.1.sl.length d2) := by rw [← e1, ← e2]
 rw [e1] at h4
 rw [e2] at h5
 refine ⟨T, o, S1, d1, S2, d2, e3, h7, fun j u hu => ?_, ⟨h4, a1, by omega⟩, h5, b1, by omega⟩
 have hj : j < 4 := by have := (List.getElem?_eq_some_iff.1 hu).1; rw [rgP_length] at this; exact this
 exact h8 j u hj (by rw [eq]; exact hu)
end
section
variable {W : World} {H : Type} {enc : TypeId × Value → H}
instance : Inhabited Th := ⟨⟨0, 0, 0, 0, 0, fun _ => 0, []⟩⟩
instance : Inhabited Rs := ⟨⟨0, [], false, []⟩⟩
end
def thL (x : Th) : List Nat := [x.at_.toNat] ++ ([x.ph.toNat] ++ ([x.rg.toNat] ++ ([x.st.toNat] ++ ([x.tk] ++ ((List.range 8).map x.r ++ (x.sn.length :: x.sn))))))
def slL (x : Sl) : List Nat := [x.s] ++ ([x.v] ++ [x.l.toNat])
def rsL (x : Rs) : List Nat := [x.tl] ++ ((x.hs.length :: x.hs) ++ ([tru x.cl] ++ (x.sl.length :: x.sl.flatMap slL)))
def stL (S : Sta) : List Nat := (S.th.length :: S.th.flatMap thL) ++ ((S.rg.length :: S.rg.flatMap rsL) ++ ([S.now] ++ ([S.rds] ++ [tru S.en])))
def sm16 (z : Int) : Prop := 0 ≤ z ∧ z ≤ 65535
def thW (x : Th) : Prop := sm16 x.at_ ∧ sm16 x.ph ∧ sm16 x.rg ∧ sm16 x.st ∧ x.tk < M64 ∧ ((∀ j, j < 8 → x.r j < M64) ∧ ∀ j, 8 ≤ j → x.r j = 0) ∧ x.sn.length ≤ 65536 ∧ ∀ n ∈ x.sn, n < M64
def slW (x : Sl) : Prop := x.s < M64 ∧ x.v < M64 ∧ sm16 x.l
def rsW (x : Rs) : Prop := x.tl < M64 ∧ (x.hs.length ≤ 8 ∧ ∀ n ∈ x.hs, n < M64) ∧ x.sl.length ≤ 64 ∧ ∀ y ∈ x.sl, slW y
def stW (S : Sta) : Prop := (S.th.length ≤ 8 ∧ ∀ x ∈ S.th, thW x) ∧ (S.rg.length ≤ 8 ∧ ∀ x ∈ S.rg, rsW x) ∧ S.now < M64 ∧ S.rds < M64
def rdG : Nat → Rdr (Nat → Nat)
 | 0 => fun s i f => (fun _ => 0, i, f)
 | n + 1 => mapR (andR (rdG n) rdN) (fun p j => if j = n then p.2 else p.1 j)
def rdT : Rdr Th := mapR (andR (rdS 65535) (andR (rdS 65535) (andR (rdS 65535) (andR (rdS 65535) (andR rdN (andR (rdG 8) (rdL 65536))))))) (fun p => ⟨(p.1 : Nat), (p.2.1 : Nat), (p.2.2.1 : Nat), (p.2.2.2.1 : Nat), p.2.2.2.2.1, p.2.2.2.2.2.1, p.2.2.2.2.2.2⟩)
def rdSl : Rdr Sl := mapR (andR rdN (andR rdN (rdS 65535))) (fun p => ⟨p.1, p.2.1, (p.2.2 : Nat)⟩)
def rdR : Rdr Rs := mapR (andR rdN (andR (rdL 8) (andR rdB (rowR 64 rdSl)))) (fun p => ⟨p.1, p.2.1, p.2.2.1, p.2.2.2⟩)
def rdSt : Rdr Sta := mapR (andR (rowR 8 rdT) (andR (rowR 8 rdR) (andR rdN (andR rdN rdB)))) (fun p => ⟨p.1, p.2.1, p.2.2.1, p.2.2.2.1, p.2.2.2.2⟩)
theorem good_G : ∀ n, Good (rdG n) (fun r => (List.range n).map r) (fun r => (∀ j, j < n → r j < M64) ∧ ∀ j, n ≤ j → r j = 0)
 | 0 => by
  refine ⟨fun s i f hi => hi, fun s i => rfl, fun s i hi e => ⟨rfl, (fun j h => by omega), fun j _ => rfl⟩, fun s i y r hi e hy => ⟨?_, rfl, e⟩⟩
  funext j; exact (hy.2 j (by omega)).symm
 | n + 1 => by
  refine ((good_G n).and good_N).map _ (fun r => (fun j => if j < n then r j else 0, r n)) (fun p hp => ?_) (fun r hr => ?_)
  ·obtain ⟨⟨h1, h2⟩, h3⟩ := hp
   refine ⟨⟨fun j hj => ?_, fun j hj => ?_⟩, ?_⟩
   ·by_cases e : j = n
    ·simp only [e, if_true]; exact h3
    ·simp only [e, if_false]; exact h1 j (by omega)
   ·simp only [show j ≠ n by omega, if_false]; exact h2 j (by omega)
   ·rw [List.range_succ, List.map_append]
    simp only [List.map_cons, List.map_nil, if_true]
    congr 1
    refine List.map_congr_left (fun j hj => ?_)
    have := List.mem_range.1 hj
    simp only [show j ≠ n by omega, if_false]
  ·obtain ⟨h1, h2⟩ := hr
   refine ⟨⟨⟨fun j hj => ?_, fun j hj => ?_⟩, h1 n (by omega)⟩, ?_, ?_⟩
   ·simp only [hj, if_true]; exact h1 j (by omega)
   ·simp only [show ¬ j < n by omega, if_false]
   ·rw [List.range_succ, List.map_append]
    simp only [List.map_cons, List.map_nil]
    congr 1
    refine List.map_congr_left (fun j hj => ?_)
    have := List.mem_range.1 hj
    simp only [this, if_true]
   ·funext j
    by_cases e : j = n
    ·simp only [e, if_true]
    ·simp only [e, if_false]
     split
     ·rfl
     ·exact (h2 j (by omega)).symm
theorem m16 : 65535 < M64 := by decide
theorem good_T : Good rdT thL thW := by
 refine ((good_S 65535 m16).and ((good_S 65535 m16).and ((good_S 65535 m16).and ((good_S 65535 m16).and (good_N.and ((good_G 8).and (good_L 65536 (by decide)))))))).map _ (fun x => (x.at_.toNat, x.ph.toNat, x.rg.toNat, x.st.toNat, x.tk, x.r, x.sn)) (fun p hp => ?_) (fun x hx => ?_)
 ·obtain ⟨a, b, c, d, e, r, l⟩ := p
  obtain ⟨h1, h2, h3, h4, h5, h6, h7⟩ := hp
  dsimp only at h1 h2 h3 h4 h5 h6 h7
  refine ⟨⟨⟨by dsimp only; omega, by dsimp only; omega⟩, ⟨by dsimp only; omega, by dsimp only; omega⟩, ⟨by dsimp only; omega, by dsimp only; omega⟩, ⟨by dsimp only; omega, by dsimp only; omega⟩, h5, h6, h7⟩, ?_⟩
  simp only [thL, Int.toNat_natCast]
 ·obtain ⟨⟨a1, a2⟩, ⟨b1, b2⟩, ⟨c1, c2⟩, ⟨d1, d2⟩, h5, h6, h7⟩ := hx
  refine ⟨⟨by dsimp only; omega, by dsimp only; omega, by dsimp only; omega, by dsimp only; omega, h5, h6, h7⟩, rfl, ?_⟩
  dsimp only
  rw [Int.toNat_of_nonneg a1, Int.toNat_of_nonneg b1, Int.toNat_of_nonneg c1, Int.toNat_of_nonneg d1]
theorem good_Sl : Good rdSl slL slW := by
 refine (good_N.and (good_N.and (good_S 65535 m16))).map _ (fun x => (x.s, x.v, x.l.toNat)) (fun p hp => ?_) (fun x hx => ?_)
 ·obtain ⟨a, b, c⟩ := p
  obtain ⟨h1, h2, h3⟩ := hp
  dsimp only at h1 h2 h3
  refine ⟨⟨h1, h2, by dsimp only; omega, by dsimp only; omega⟩, ?_⟩
  simp only [slL, Int.toNat_natCast]
 ·obtain ⟨h1, h2, c1, c2⟩ := hx
  refine ⟨⟨h1, h2, by dsimp only; omega⟩, rfl, ?_⟩
  dsimp only
  rw [Int.toNat_of_nonneg c1]
theorem good_R : Good rdR rsL rsW := (good_N.and ((good_L 8 (by decide)).and (good_B.and (good_Sl.row 64 (by decide))))).map _ (fun x => (x.tl, x.hs, x.cl, x.sl)) (fun p hp => ⟨⟨hp.1, hp.2.1, hp.2.2.2⟩, rfl⟩) (fun x hx => ⟨⟨hx.1, hx.2.1, trivial, hx.2.2⟩, rfl, rfl⟩)
theorem good_St : Good rdSt stL stW := ((good_T.row 8 (by decide)).and ((good_R.row 8 (by decide)).and (good_N.and (good_N.and good_B)))).map _ (fun S => (S.th, S.rg, S.now, S.rds, S.en)) (fun p hp => ⟨⟨hp.1, hp.2.1, hp.2.2.1, hp.2.2.2.1⟩, rfl⟩) (fun S hS => ⟨⟨hS.1, hS.2.1, hS.2.2.1, hS.2.2.2, trivial⟩, rfl, rfl⟩)
section
variable {P : Program} {ops : Array Oper}
def dirs (ops : Array Oper) (i : Nat) : List Nat := match ops[i]? with | some o => (o.after.toList.filter (fun e => Region.binds .any e)).map (·.on) | none => []
def putsOf (ds : List (Option Tmp)) (x : Nat → Value) (a : Act) (js : List Nat) : Act := js.foldl (fun a j => a.put (ds.getD j none) (x j)) a
def QF : Exit → Act → World → Prop := fun _ _ _ => False
def StepV (P : Program) (ops : Array Oper) (i : Nat) (b : Act) (w : World) (R : Value → World → Prop) : Prop :=
 ∀ o, ops[i]? = some o → ∀ K' : Act → World → Prop, Shut (∀ a' w', (∃ v, a' = b.put o.dst v ∧ R v w') → K' a' w') → if Region.wanted o (yielded ops b.tmps) = true then Oper.wp P o b w K' QF else K' (b.put o.dst undef) w
theorem StepV.mk {i : Nat} {o : Oper} {b : Act} {w : World} {R : Value → World → Prop} (ho : ops[i]? = some o)
  (h : ∀ K' : Act → World → Prop, Shut (∀ a' w', (∃ v, a' = b.put o.dst v ∧ R v w') → K' a' w') → if Region.wanted o (yielded ops b.tmps) = true then Oper.wp P o b w K' QF else K' (b.put o.dst undef) w) : StepV P ops i b w R := by
 intro o' ho' K hK
 rw [ho] at ho'
 cases ho'
 exact h K hK
theorem all_in {l : List Nat} (q : Nat → Bool) (h : l.all q = true) {j : Nat} (hj : j ∈ l) : q j = true := List.all_eq_true.1 h j hj
def QK (K : Act → World → Prop) : Exit → Act → World → Prop
 | .normal, a, w => K a w
 | _, _, _ => False
theorem step_list {o : Oper} {a : Act} {w : World} {K : Act → World → Prop} (hw : Region.wanted o (yielded ops a.tmps) = true) (h : wpList P ops (QK K) [o] a w) : Oper.wp P o a w K QF := by
 unfold wpList at h
 rw [if_pos hw] at h
 rcases h with h | ⟨_, hl⟩
 ·unfold Oper.wp at *
  generalize (execOp a.eval o).run P w = r at *
  cases r with
  | ok n w' =>
   cases n <;> simp only [Oper.upon] at h ⊢
   case value u => exact h
   case skip => exact h
   case defer d => exact h
   case enter f args =>
    refine Calls.mono h fun e w'' he => ?_
    cases e with
    | returned u => exact he
    | panicked c => exact he.elim
    | outgrown => obtain ⟨_, _, h⟩ := he; exact h.elim
   case row row args => exact h
  | halt x w' =>
   cases x <;> simp only [Oper.upon] at h ⊢
   case panic u => exact h.elim
 ·obtain ⟨_, _, h⟩ := hl
  exact h.elim
theorem put_tmps (a : Act) (d : Option Tmp) (v : Value) : (a.put d v).tmps.size = a.tmps.size ∧ (a.put d v).defers = a.defers := by
 cases d with
 | none => exact ⟨rfl, rfl⟩
 | some d => exact ⟨Array.size_setIfInBounds, rfl⟩
theorem act_ext {a b : Act} (h1 : a.tmps = b.tmps) (h2 : a.defers = b.defers) : a = b := by
 obtain ⟨_, _⟩ := a
 obtain ⟨_, _⟩ := b
 simp only at h1 h2
 rw [h1, h2]
theorem put_cong {a b : Act} {d : Option Tmp} {v v' : Value} (hs : a.tmps.size = b.tmps.size) (h : b.put d v = b.put d v') : a.put d v = a.put d v' := by
 cases d with
 | none => rfl
 | some d =>
  by_cases hd : d < b.tmps.size
  ·have := congrArg (fun c => c.tmps[d]?) h
   simp only [Act.put] at this
   rw [Array.getElem?_setIfInBounds_self_of_lt hd, Array.getElem?_setIfInBounds_self_of_lt hd] at this
   injection this with this
   rw [this]
  ·refine act_ext ?_ rfl
   simp only [Act.put]
   rw [Array.setIfInBounds, dif_neg (by rw [hs]; exact hd), Array.setIfInBounds, dif_neg (by rw [hs]; exact hd)]
theorem StepV.move {i : Nat} {o : Oper} {a b : Act} {w : World} {R : Value → World → Prop} {Q : Exit → Act → World → Prop} (ho : ops[i]? = some o) (hsel : ∀ cs b, o.op ≠ .select cs b)
  (hsz : a.tmps.size = b.tmps.size) (he : ∀ d ∈ o.looksAt ops, a.tmps[d]? = b.tmps[d]?) (h : StepV P ops i b w R) : wpOp P ops Q i (fun a' w' => ∃ v, a' = a.put o.dst v ∧ R v w') a w := by
 have h0 := h o ho (fun a' w' => ∃ v, a' = b.put o.dst v ∧ R v w') (fun _ _ h => h)
 have hex : execOp a.eval o = execOp b.eval o := by
  refine execOp_congr o hsel (fun x hx => ?_)
  cases x with
  | tmp t =>
   have := he t (List.mem_append_left _ (List.mem_filterMap.2 ⟨.tmp t, by simpa using hx, rfl⟩))
   show a.tmps.getD t undef = b.tmps.getD t undef
   rw [Array.getD_eq_getD_getElem?, Array.getD_eq_getD_getElem?, this]
  | _ => rfl
 have hwa : Region.wanted o (yielded ops a.tmps) = Region.wanted o (yielded ops b.tmps) := by
  unfold Region.wanted
  cases hg : o.guard with
  | none => rfl
  | some gw =>
   obtain ⟨g, want⟩ := gw
   have hy : yielded ops a.tmps g = yielded ops b.tmps g := by
    unfold yielded
    cases ht : (ops[g]?).bind (·.dst) with
    | none => rfl
    | some t =>
     have := he t (by simp [Oper.looksAt, hg, ht])
     simp only [Option.bind_some, this]
   simp only [hy]
 unfold wpOp
 simp only [ho]
 rw [hwa]
 split
 ·rename_i hw
  rw [if_pos hw] at h0
  refine .inl ?_
  unfold Oper.wp at *
  rw [hex]
  generalize (execOp b.eval o).run P w = r at *
  cases r with
  | ok n w' =>
   cases n <;> simp only [Oper.upon] at h0 ⊢
   case value u => obtain ⟨v, e, hR⟩ := h0; exact ⟨v, put_cong hsz e, hR⟩
   case skip => obtain ⟨v, e, hR⟩ := h0; exact ⟨v, put_cong hsz e, hR⟩
   case defer d =>
    obtain ⟨v, e, hR⟩ := h0
    have := congrArg Act.defers e
    rw [(put_tmps _ _ _).2, (put_tmps _ _ _).2] at this
    exact absurd (congrArg List.length this) (by simp)
   case enter f args =>
    refine Calls.mono h0 fun e w'' he => ?_
    cases e with
    | returned u => obtain ⟨v, e, hR⟩ := he; exact ⟨v, put_cong hsz e, hR⟩
    | panicked c => exact he.elim
    | outgrown => obtain ⟨_, _, h⟩ := he; exact h.elim
   case row row args => exact Rows.mono h0 fun u w'' he => by obtain ⟨v, e, hR⟩ := he; exact ⟨v, put_cong hsz e, hR⟩
  | halt x w' =>
   cases x <;> simp only [Oper.upon] at h0 ⊢
   case panic u => exact h0.elim
 ·rename_i hw
  rw [if_neg hw] at h0
  obtain ⟨v, e, hR⟩ := h0
  exact ⟨v, put_cong hsz e, hR⟩
def relyB (ops : Array Oper) (ds : List (Option Tmp)) (js es ps : List (List Nat)) (N : Nat) : Bool :=
 (ds == ops.toList.map (·.dst)) && Region.noSelect ops &&
 (List.range ops.size).all (fun i => (dirs ops i).all (fun e => decide (e < i)) && (js.getD i []).all (fun j => (dirs ops i).contains j || decide (ops.size ≤ j)) &&
  (List.range ops.size).all (fun j => (match ds.getD j none with
   | some t => (i == j || ds.getD i none != some t) && (i == j || (js.getD i []).contains j || (dirs ops j).contains i || !((ops.getD i default).looksAt ops).contains t)
   | none => true) && ((es.getD j []).all (fun e => !(js.getD i []).contains e || i == j || (dirs ops j).contains i))) &&
  (List.range N).all (fun j => i == j || (ps.getD i []).contains j || (es.getD i []).contains j || (dirs ops j).contains i || (dirs ops i).any (fun k => (es.getD k []).contains j)))
structure Rely (ops : Array Oper) (ds : List (Option Tmp)) (js es ps : List (List Nat)) (N : Nat) : Prop where
 ds_ : ds = ops.toList.map (·.dst)
 sel : Region.noSelect ops = true
 back : ∀ i e, i < ops.size → e ∈ dirs ops i → e < i
 sub : ∀ i j, i < ops.size → j ∈ js.getD i [] → j ∈ dirs ops i ∨ ops.size ≤ j
 one : ∀ i j t, i < ops.size → j < ops.size → ds.getD j none = some t → ds.getD i none = some t → i = j
 looks : ∀ i j t, i < ops.size → j < ops.size → ds.getD j none = some t → t ∈ (ops.getD i default).looksAt ops → i = j ∨ j ∈ js.getD i [] ∨ i ∈ dirs ops j
 eats : ∀ i j e, i < ops.size → j < ops.size → e ∈ es.getD j [] → e ∈ js.getD i [] → i = j ∨ i ∈ dirs ops j
 pres : ∀ i j, i < ops.size → j < N → i = j ∨ j ∈ ps.getD i [] ∨ j ∈ es.getD i [] ∨ i ∈ dirs ops j ∨ ∃ k ∈ dirs ops i, j ∈ es.getD k []
theorem Rely.of {ds : List (Option Tmp)} {js es ps : List (List Nat)} {N : Nat} (h : relyB ops ds js es ps N = true) : Rely ops ds js es ps N := by
 unfold relyB at h
 rw [Bool.and_eq_true, Bool.and_eq_true, List.all_eq_true] at h
 obtain ⟨⟨h1, h2⟩, h3⟩ := h
 have h4 := fun i (hi : i < ops.size) => h3 i (List.mem_range.2 hi)
 simp only [Bool.and_eq_true, List.all_eq_true] at h4
 have h5 := fun i hi j (hj : j < ops.size) => (h4 i hi).1.2 j (List.mem_range.2 hj)
 have h6 := fun i hi j (hj : j < N) => (h4 i hi).2 j (List.mem_range.2 hj)
 refine ⟨by simpa using h1, h2, fun i e hi he => ?_, fun i j hi hj => ?_, fun i j t hi hj h1 h2 => ?_, fun i j t hi hj h1 h2 => ?_, fun i j e hi hj h1 h2 => ?_, fun i j hi hj => ?_⟩
 ·simpa using (h4 i hi).1.1.1 e he
 ·have := (h4 i hi).1.1.2 j hj
  simpa using this
 ·have := (h5 i hi j hj).1
  rw [h1] at this
  simp only [Bool.and_eq_true, Bool.or_eq_true, beq_iff_eq, bne_iff_ne] at this
  rcases this.1 with h | h
  ·exact h
  ·exact absurd h2 h
 ·have := (h5 i hi j hj).1
  rw [h1] at this
  simp only [Bool.and_eq_true, Bool.or_eq_true, beq_iff_eq, bne_iff_ne, List.contains_iff_mem, Bool.not_eq_true'] at this
  rcases this.2 with ((h | h) | h) | h
  ·exact .inl h
  ·exact .inr (.inl h)
  ·exact .inr (.inr h)
  ·rw [List.contains_eq_mem, decide_eq_false_iff_not] at h
   exact absurd h2 h
 ·have := (h5 i hi j hj).2 e h1
  simp only [Bool.or_eq_true, beq_iff_eq, List.contains_iff_mem, Bool.not_eq_true'] at this
  rcases this with (h | h) | h
  ·rw [List.contains_eq_mem, decide_eq_false_iff_not] at h
   exact absurd h2 h
  ·exact .inl h
  ·exact .inr h
 ·have := h6 i hi j hj
  simp only [Bool.or_eq_true, beq_iff_eq, List.contains_iff_mem, List.any_eq_true] at this
  rcases this with (((h | h) | h) | h) | h
  ·exact .inl h
  ·exact .inr (.inl h)
  ·exact .inr (.inr (.inl h))
  ·exact .inr (.inr (.inr (.inl h)))
  ·exact .inr (.inr (.inr (.inr h)))
def AllP (V : Nat → Value → World → Prop) (w w' : World) : List Nat → Prop
 | [] => True
 | j :: l => (∀ u, V j u w → V j u w') ∧ AllP V w w' l
theorem AllP.get {V : Nat → Value → World → Prop} {w w' : World} : ∀ {l : List Nat}, AllP V w w' l → ∀ j ∈ l, ∀ u, V j u w → V j u w'
 | [], _, _, h => by cases h
 | k :: l, h, j, hj => by
  rcases List.mem_cons.1 hj with rfl | hj
  ·exact h.1
  ·exact h.2.get j hj
theorem AllP.same {V : Nat → Value → World → Prop} {w : World} : ∀ (l : List Nat), AllP V w w l
 | [] => trivial
 | _ :: l => ⟨fun _ h => h, AllP.same l⟩
theorem AllP.of {V : Nat → Value → World → Prop} {w w' : World} : ∀ (l : List Nat), (∀ j ∈ l, ∀ u, V j u w → V j u w') → AllP V w w' l
 | [], _ => trivial
 | k :: l, h => ⟨h k List.mem_cons_self, AllP.of l (fun j hj => h j (List.mem_cons_of_mem _ hj))⟩
def AllV (V : Nat → Value → World → Prop) (x : Nat → Value) (w : World) : List Nat → Prop
 | [] => True
 | j :: l => V j (x j) w ∧ AllV V x w l
theorem AllV.of {V : Nat → Value → World → Prop} {x : Nat → Value} {w : World} : ∀ (l : List Nat), (∀ j ∈ l, V j (x j) w) → AllV V x w l
 | [], _ => trivial
 | k :: l, h => ⟨h k List.mem_cons_self, AllV.of l (fun j hj => h j (List.mem_cons_of_mem _ hj))⟩
structure FrV (ops : Array Oper) (ds : List (Option Tmp)) (a0 : Act) (x : Nat → Value) (listed : Array Bool) (a : Act) : Prop where
 size : a.tmps.size = a0.tmps.size
 defers : a.defers = a0.defers
 put : ∀ j t, j < ops.size → listed.getD j false = true → ds.getD j none = some t → t < a0.tmps.size → a.tmps[t]? = some (x j)
 old : ∀ t, (∀ j, j < ops.size → listed.getD j false = true → ds.getD j none ≠ some t) → a.tmps[t]? = a0.tmps[t]?
theorem putsOf_size (ds : List (Option Tmp)) (x : Nat → Value) : ∀ (js : List Nat) (a : Act), (putsOf ds x a js).tmps.size = a.tmps.size ∧ (putsOf ds x a js).defers = a.defers
 | [], a => ⟨rfl, rfl⟩
 | j :: js, a => by
  have h := putsOf_size ds x js (a.put (ds.getD j none) (x j))
  exact ⟨h.1.trans (put_tmps _ _ _).1, h.2.trans (put_tmps _ _ _).2⟩
theorem put_get (a : Act) (d : Option Tmp) (v : Value) (t : Nat) : (a.put d v).tmps[t]? = if d = some t ∧ t < a.tmps.size then some v else a.tmps[t]? := by
 cases d with
 | none => simp [Act.put]
 | some d =>
  simp only [Act.put, Option.some.injEq]
  by_cases h : d = t
  ·subst h
   by_cases h2 : d < a.tmps.size
   ·rw [Array.getElem?_setIfInBounds_self_of_lt h2, if_pos ⟨rfl, h2⟩]
   ·rw [if_neg (fun h => h2 h.2), Array.setIfInBounds, dif_neg h2]
  ·rw [Array.getElem?_setIfInBounds_ne h, if_neg (fun h2 => h h2.1)]
theorem putsOf_old (ds : List (Option Tmp)) (x : Nat → Value) (t : Nat) : ∀ (js : List Nat) (a : Act), (∀ j ∈ js, ds.getD j none ≠ some t) → (putsOf ds x a js).tmps[t]? = a.tmps[t]?
 | [], a, _ => rfl
 | j :: js, a, h => by
  have := putsOf_old ds x t js (a.put (ds.getD j none) (x j)) (fun k hk => h k (List.mem_cons_of_mem _ hk))
  exact this.trans (by rw [put_get, if_neg (fun e => h j List.mem_cons_self e.1)])
theorem putsOf_new (ds : List (Option Tmp)) (x : Nat → Value) (t i : Nat) : ∀ (js : List Nat) (a : Act), (∀ j ∈ js, ds.getD j none = some t → j = i) → i ∈ js → ds.getD i none = some t → t < a.tmps.size → (putsOf ds x a js).tmps[t]? = some (x i)
 | [], a, _, h, _, _ => by cases h
 | j :: js, a, h1, h2, h3, h4 => by
  by_cases hi : i ∈ js
  ·exact putsOf_new ds x t i js (a.put (ds.getD j none) (x j)) (fun k hk => h1 k (List.mem_cons_of_mem _ hk)) hi h3 (by rw [(put_tmps _ _ _).1]; exact h4)
  ·have hij : i = j := (List.mem_cons.1 h2).resolve_right hi
   subst hij
   have := putsOf_old ds x t js (a.put (ds.getD i none) (x i)) (fun k hk e => hi (by rw [← h1 k (List.mem_cons_of_mem _ hk) e]; exact hk))
   exact this.trans (by rw [put_get, if_pos ⟨h3, h4⟩])
theorem dirs_mem {i e : Nat} {o : Oper} (ho : ops[i]? = some o) : e ∈ dirs ops i ↔ ∃ g ∈ o.after, Region.binds .any g = true ∧ g.on = e := by
 unfold dirs
 rw [ho]
 simp only [List.mem_map, List.mem_filter, Array.mem_toList_iff]
 constructor
 ·rintro ⟨g, ⟨h1, h2⟩, h3⟩; exact ⟨g, h1, h2, h3⟩
 ·rintro ⟨g, h1, h2, h3⟩; exact ⟨g, ⟨h1, h2⟩, h3⟩
theorem getD_tf {listed : Array Bool} {j : Nat} (h : j < listed.size) (d d' : Bool) : listed.getD j d = listed.getD j d' := by
 simp [h]
def unl (listed : Array Bool) : Nat := listed.toList.countP (fun b => !b)
theorem unl_set {listed : Array Bool} {i : Nat} (hi : i < listed.size) (h : listed.getD i false = false) : unl (listed.setIfInBounds i true) + 1 = unl listed := by
 have hl : i < listed.toList.length := by simpa using hi
 have he : listed.toList[i] = false := by
  simpa [hi] using h
 have hp : 0 < listed.toList.countP (fun b => !b) := List.countP_pos_iff.2 ⟨false, by rw [← he]; exact List.getElem_mem hl, rfl⟩
 unfold unl
 rw [Array.toList_setIfInBounds, List.countP_set hl, he]
 simp only [Bool.not_false, if_true, Bool.not_true, Bool.false_eq_true, if_false]
 omega
theorem unl_zero {listed : Array Bool} (h : unl listed = 0) (j : Nat) (hj : j < listed.size) : listed.getD j false = true := by
 have := List.countP_eq_zero.1 h (listed.toList[j]'(by simpa using hj)) (List.getElem_mem _)
 simpa [hj] using this
theorem set_getD {listed : Array Bool} {i j : Nat} (hi : i < listed.size) : (listed.setIfInBounds i true).getD j false = true ↔ j = i ∨ listed.getD j false = true := by
 by_cases e : i = j
 ·subst e
  simp [hi]
 ·rw [getD_set_ne false e]
  constructor
  ·exact .inr
  ·rintro (h | h)
   ·exact absurd h.symm e
   ·exact h
theorem FrV.full {ds : List (Option Tmp)} {js es ps : List (List Nat)} {N : Nat} {a0 a : Act} {x : Nat → Value} {listed : Array Bool} (hok : Rely ops ds js es ps N) (h : FrV ops ds a0 x listed a) (hall : ∀ j, j < ops.size → listed.getD j false = true) :
  a = putsOf ds x a0 (List.range ops.size) := by
 have hz := putsOf_size ds x (List.range ops.size) a0
 refine act_ext ?_ (h.defers.trans hz.2.symm)
 apply Array.ext_getElem?
 intro t
 by_cases ht : t < a0.tmps.size
 ·by_cases hex : ∃ j, j < ops.size ∧ ds.getD j none = some t
  ·obtain ⟨j, hj, hd⟩ := hex
   rw [h.put j t hj (hall j hj) hd ht]
   exact (putsOf_new ds x t j _ a0 (fun k hk e => hok.one k j t (List.mem_range.1 hk) hj hd e) (List.mem_range.2 hj) hd ht).symm
  ·rw [h.old t (fun j hj _ e => hex ⟨j, hj, e⟩)]
   exact (putsOf_old ds x t _ a0 (fun j hj e => hex ⟨j, List.mem_range.1 hj, e⟩)).symm
 ·rw [Array.getElem?_eq_none (by rw [h.size]; omega), Array.getElem?_eq_none (by rw [hz.1]; omega)]
theorem FrV.step {ds : List (Option Tmp)} {js es ps : List (List Nat)} {N : Nat} {a0 a : Act} {x : Nat → Value} {listed : Array Bool} {i : Nat} {v : Value} (hok : Rely ops ds js es ps N) (h : FrV ops ds a0 x listed a) (hi : i < ops.size) (hs : listed.size = ops.size) (hu : listed.getD i false = false) :
  FrV ops ds a0 (fun j => if j = i then v else x j) (listed.setIfInBounds i true) (a.put (ds.getD i none) v) := by
 refine ⟨(put_tmps _ _ _).1.trans h.size, (put_tmps _ _ _).2.trans h.defers, fun j t hj hl hd ht => ?_, fun t hn => ?_⟩
 ·rw [put_get]
  by_cases e : j = i
  ·subst e
   rw [if_pos ⟨hd, by rw [h.size]; exact ht⟩, if_pos rfl]
  ·rw [if_neg (fun e2 => e (hok.one j i t hj hi e2.1 hd)), if_neg e]
   exact h.put j t hj (((set_getD (by omega)).1 hl).resolve_left e) hd ht
 ·rw [put_get, if_neg (fun e => hn i hi ((set_getD (by omega)).2 (.inl rfl)) e.1)]
  exact h.old t (fun j hj hl => hn j hj ((set_getD (by omega)).2 (.inr hl)))
theorem wpAny_rely {ds : List (Option Tmp)} {js es ps : List (List Nat)} {N : Nat} {Q : Exit → Act → World → Prop} {a0 : Act} {S : World → Prop} {V : Nat → Value → World → Prop} (hok : Rely ops ds js es ps N)
  (hjs : ∀ i j, i < ops.size → j ∈ js.getD i [] → j < N) (hstep : ∀ i, i < ops.size → ∀ (x : Nat → Value) (w : World), S w → AllV V x w (js.getD i []) →
   StepV P ops i (putsOf ds x a0 (js.getD i [])) w (fun v w' => S w' ∧ V i v w' ∧ AllP V w w' (ps.getD i [])))
  (hend : ∀ (x : Nat → Value) (w : World), S w → (∀ j, j < N → (∀ i, i < ops.size → j ∉ es.getD i []) → V j (x j) w) → Q .normal (putsOf ds x a0 (List.range ops.size)) w) :
  ∀ (fuel : Nat) (listed : Array Bool) (a : Act) (x : Nat → Value) (w : World), listed.size = ops.size → (∀ j, j < ops.size → listed.getD j false = true → ∀ e ∈ dirs ops j, listed.getD e false = true) → unl listed ≤ fuel → S w →
   (∀ j, j < N → (j < ops.size → listed.getD j false = true) → (∀ i, i < ops.size → listed.getD i false = true → j ∉ es.getD i []) → V j (x j) w) → FrV ops ds a0 x listed a → wpAny P .any ops Q fuel listed a w := by
 have hfin : ∀ (listed : Array Bool) (a : Act) (x : Nat → Value) (w : World), S w → (∀ j, j < ops.size → listed.getD j false = true) →
   (∀ j, j < N → (j < ops.size → listed.getD j false = true) → (∀ i, i < ops.size → listed.getD i false = true → j ∉ es.getD i []) → V j (x j) w) → FrV ops ds a0 x listed a → Q .normal a w := by
  intro listed a x w hS hall hV hF
  rw [hF.full hok hall]
  exact hend x w hS (fun j hj hn => hV j hj (hall j) (fun i hi _ => hn i hi))
 intro fuel
 induction fuel with
 | zero =>
  intro listed a x w hsz hdc hu hS hV hF
  have hall : ∀ j, j < ops.size → listed.getD j false = true := fun j hj => unl_zero (by omega) j (by omega)
  refine ⟨?_, hfin listed a x w hS hall hV hF⟩
  cases hr : Region.ready .any ops listed with
  | nil => rfl
  | cons i rs =>
   exfalso
   have hm : i ∈ Region.ready .any ops listed := by rw [hr]; exact List.mem_cons_self
   obtain ⟨h0, o, ho, _⟩ := mem_ready.1 hm
   have hi := (Array.getElem?_eq_some_iff.1 ho).1
   have := hall i hi
   rw [getD_tf (by omega) false true, h0] at this
   cases this
 | succ fuel ih =>
  intro listed a x w hsz hdc hu hS hV hF
  refine ⟨fun hr => hfin listed a x w hS ?_ hV hF, fun i hi => ?_⟩
  ·intro j
   induction j using Nat.strongRecOn with
   | ind j ihj =>
    intro hj
    cases hl : listed.getD j false with
    | true => rfl
    | false =>
     exfalso
     have hm : j ∈ Region.ready .any ops listed := by
      refine mem_ready.2 ⟨by rw [getD_tf (by omega) true false]; exact hl, ops[j], Array.getElem?_eq_getElem hj, fun e he hb => ?_⟩
      have hd := (dirs_mem (Array.getElem?_eq_getElem hj)).2 ⟨e, he, hb, rfl⟩
      have hlt := hok.back j e.on hj hd
      exact ihj e.on hlt (by omega)
     rw [hr] at hm
     cases hm
  ·obtain ⟨h0, o, ho, hall⟩ := mem_ready.1 hi
   have hin := (Array.getElem?_eq_some_iff.1 ho).1
   have hun : listed.getD i false = false := by rw [getD_tf (by omega) false true]; exact h0
   have hdi : ∀ e ∈ dirs ops i, listed.getD e false = true := fun e he => by
    obtain ⟨g, h1, h2, h3⟩ := (dirs_mem ho).1 he
    rw [← h3]; exact hall g h1 h2
   have hdl : ∀ e ∈ dirs ops i, e < ops.size := fun e he => Nat.lt_trans (hok.back i e hin he) hin
   have hds : o.dst = ds.getD i none := by
    rw [hok.ds_, List.getD_eq_getElem?_getD, List.getElem?_map, Array.getElem?_toList, ho]; rfl
   have hpre : ∀ j ∈ js.getD i [], V j (x j) w := fun j hj => by
    have hjd := hok.sub i j hin hj
    refine hV j (hjs i j hin hj) (fun hjn => hdi j (hjd.resolve_right (by omega))) (fun k hk hkl hjk => ?_)
    rcases hok.eats i k j hin hk hjk hj with e | e
    ·subst e
     rw [hun] at hkl; cases hkl
    ·have := hdc k hk hkl i e
     rw [hun] at this; cases this
   have hst := hstep i hin x w hS (AllV.of _ hpre)
   have hz := putsOf_size ds x (js.getD i []) a0
   have hmv := StepV.move (Q := Q) (a := a) ho (Region.noSelect_spec hok.sel i o · · ho) (hF.size.trans hz.1.symm) (fun t ht => ?_) hst
   ·refine wpOp_mono (fun a' w' h => ?_) hmv
    obtain ⟨v, rfl, hS', hVi, hpr⟩ := h
    rw [hds]
    refine ih (listed.setIfInBounds i true) _ (fun j => if j = i then v else x j) w' (by simpa using hsz) ?_ ?_ hS' ?_ (hF.step hok hin hsz hun)
    ·intro j hj hl e he
     refine (set_getD (by omega)).2 (.inr ?_)
     rcases (set_getD (by omega)).1 hl with e2 | e2
     ·subst e2; exact hdi e he
     ·exact hdc j hj e2 e he
    ·have := unl_set (by omega) hun
     omega
    ·intro j hjN hl hn
     by_cases e : j = i
     ·subst e
      simpa using hVi
     ·simp only [if_neg e]
      have hps : j ∈ ps.getD i [] := by
       rcases hok.pres i j hin hjN with e2 | e2 | e2 | e2 | ⟨k, hk, e2⟩
       ·exact absurd e2.symm e
       ·exact e2
       ·exact absurd e2 (hn i hin ((set_getD (by omega)).2 (.inl rfl)))
       ·exfalso
        by_cases hjn : j < ops.size
        ·have := hdc j hjn (((set_getD (by omega)).1 (hl hjn)).resolve_left e) i e2
         rw [hun] at this; cases this
        ·unfold dirs at e2
         rw [Array.getElem?_eq_none (by omega)] at e2
         cases e2
       ·exact absurd e2 (hn k (hdl k hk) ((set_getD (by omega)).2 (.inr (hdi k hk))))
      refine hpr.get j hps _ ?_
      exact hV j hjN (fun hj => ((set_getD (by omega)).1 (hl hj)).resolve_left e) (fun k hk hkl => hn k hk ((set_getD (by omega)).2 (.inr hkl)))
   ·have hnone : ∀ k, ops.size ≤ k → ds.getD k none = none := fun k hk => by
     rw [List.getD_eq_getElem?_getD, List.getElem?_eq_none (by rw [hok.ds_]; simpa using hk)]; rfl
    have hget : (ops.getD i default) = o := by
     rw [Array.getD_eq_getD_getElem?, ho]; rfl
    by_cases hsz2 : t < a0.tmps.size
    ·by_cases hex : ∃ j, j < ops.size ∧ listed.getD j false = true ∧ ds.getD j none = some t
     ·obtain ⟨j, hj, hl, hd⟩ := hex
      rw [hF.put j t hj hl hd hsz2]
      rcases hok.looks i j t hin hj hd (by rw [hget]; exact ht) with e | e | e
      ·subst e; rw [hun] at hl; cases hl
      ·refine (putsOf_new ds x t j _ a0 (fun k hk e2 => ?_) e hd hsz2).symm
       rcases hok.sub i k hin hk with e3 | e3
       ·exact hok.one k j t (hdl k e3) hj hd e2
       ·rw [hnone k e3] at e2; cases e2
      ·have := hdc j hj hl i e
       rw [hun] at this; cases this
     ·rw [hF.old t (fun j hj hl e => hex ⟨j, hj, hl, e⟩)]
      refine (putsOf_old ds x t _ a0 (fun j hj e => ?_)).symm
      rcases hok.sub i j hin hj with e3 | e3
      ·exact hex ⟨j, hdl j e3, hdi j e3, e⟩
      ·rw [hnone j e3] at e; cases e
    ·rw [Array.getElem?_eq_none (by rw [hF.size]; exact Nat.le_of_not_lt hsz2), Array.getElem?_eq_none (by rw [hz.1]; exact Nat.le_of_not_lt hsz2)]
def RelyStep (P : Program) (ops : Array Oper) (ds : List (Option Tmp)) (js ps : List (List Nat)) (a0 : Act) (S : World → Prop) (V : Nat → Value → World → Prop) (i : Nat) : Prop :=
 ∀ (x : Nat → Value) (w : World), S w → AllV V x w (js.getD i []) → StepV P ops i (putsOf ds x a0 (js.getD i [])) w (fun v w' => S w' ∧ V i v w' ∧ AllP V w w' (ps.getD i []))
def RelySteps (P : Program) (ops : Array Oper) (ds : List (Option Tmp)) (js ps : List (List Nat)) (a0 : Act) (S : World → Prop) (V : Nat → Value → World → Prop) (is : List Nat) : Prop :=
 ∀ i ∈ is, RelyStep P ops ds js ps a0 S V i
theorem RelySteps.nil {ds : List (Option Tmp)} {js ps : List (List Nat)} {a0 : Act} {S : World → Prop} {V : Nat → Value → World → Prop} : RelySteps P ops ds js ps a0 S V [] := fun _ h => by cases h
theorem RelySteps.cons {ds : List (Option Tmp)} {js ps : List (List Nat)} {a0 : Act} {S : World → Prop} {V : Nat → Value → World → Prop} {i : Nat} {is : List Nat} (h : RelyStep P ops ds js ps a0 S V i)
  (hs : RelySteps P ops ds js ps a0 S V is) : RelySteps P ops ds js ps a0 S V (i :: is) := fun k hk => by
 rcases List.mem_cons.1 hk with rfl | hk
 ·exact h
 ·exact hs k hk
theorem RelyStep.mk {ds : List (Option Tmp)} {js ps : List (List Nat)} {a0 : Act} {S : World → Prop} {V : Nat → Value → World → Prop} {i : Nat} {o : Oper} (J K : List Nat) (ho : ops[i]? = some o) (hJ : js.getD i [] = J) (hK : ps.getD i [] = K)
  (h : ∀ (x : Nat → Value) (w : World), S w → AllV V x w J → ∀ (b : Act), b = putsOf ds x a0 J → ∀ K' : Act → World → Prop, Shut (∀ a' w', (∃ v, a' = b.put o.dst v ∧ S w' ∧ V i v w' ∧ AllP V w w' K) → K' a' w') →
   if Region.wanted o (yielded ops b.tmps) = true then Oper.wp P o b w K' QF else K' (b.put o.dst undef) w) : RelyStep P ops ds js ps a0 S V i := by
 intro x w hS hV
 rw [hJ] at hV ⊢
 rw [hK]
 exact StepV.mk ho (fun K' hK' => h x w hS hV _ rfl K' hK')
theorem wp_region_rely {id : Nat} {a0 : Act} {w : World} {Q : Exit → Act → World → Prop} (S : World → Prop) (V : Nat → Value → World → Prop) (ds : List (Option Tmp)) (js es ps : List (List Nat)) (is : List Nat) (N : Nat) (hm : P.follows .mixedOrders = true)
  (hok : relyB ops ds js es ps N = true) (hjs : js.all (fun l => l.all (fun j => decide (j < N))) = true) (his : List.range ops.size = is) (hS : S w.drew) (hI : ∀ j, j < N → ops.size ≤ j → V j undef w.drew) (hsteps : RelySteps P ops ds js ps a0 S V is)
  (hend : ∀ (x : Nat → Value) (w : World), S w → (∀ j, j < N → (is.all fun i => !(es.getD i []).contains j) = true → V j (x j) w) → Q .normal (putsOf ds x a0 is) w) : (Code.region id ops true).wp P Q a0 w := by
 subst his
 have hjs2 : ∀ i j, i < ops.size → j ∈ js.getD i [] → j < N := fun i j _ hj => by
  rw [List.getD_eq_getElem?_getD] at hj
  cases hg : js[i]? with
  | none => rw [hg] at hj; cases hj
  | some l =>
   rw [hg] at hj
   have := List.all_eq_true.1 (List.all_eq_true.1 hjs l (List.mem_of_getElem? hg)) j hj
   simpa using this
 refine wp_region_any hm (wpAny_rely (Rely.of hok) hjs2 (fun i hi => hsteps i (List.mem_range.2 hi)) (fun x w h1 h2 => hend x w h1 (fun j hj hn => h2 j hj (fun i hi hc => ?_))) ops.size _ a0 (fun _ => undef) _ (by simp) (fun j hj h => ?_) ?_ hS (fun j hj h hn => ?_) ⟨rfl, rfl, fun j t hj h => ?_, fun _ _ => rfl⟩)
 ·have := List.all_eq_true.1 hn i (List.mem_range.2 hi)
  rw [List.contains_iff_mem.2 hc] at this
  cases this
 ·simp [hj] at h
 ·unfold unl
  refine Nat.le_trans List.countP_le_length (by simp)
 ·refine hI j hj (Nat.le_of_not_lt fun hj => ?_)
  have := h hj
  simp [hj] at this
 ·simp [hj] at h
end
section
variable {P : Program} {ops : Array Oper}
def updX (x : Nat → Value) (i : Nat) (v : Value) : Nat → Value := fun j => if j = i then v else x j
def updL (L : Nat → Bool) (i : Nat) : Nat → Bool := fun j => (j == i) || L j
theorem updL_set {listed : Array Bool} {i : Nat} (hi : i < listed.size) : updL (fun k => listed.getD k false) i = fun k => (listed.setIfInBounds i true).getD k false := by
 funext k
 unfold updL
 rw [Bool.eq_iff_iff, Bool.or_eq_true, beq_iff_eq, set_getD hi]
theorem none_listed {n : Nat} : (fun k => (Array.replicate n false).getD k false) = fun _ => false := by
 funext k
 by_cases h : k < n
 ·simp [h]
 ·simp [h]
def AllPX (V : Nat → Value → World → Prop) (x : Nat → Value) (L : Nat → Bool) (w w' : World) : List Nat → Prop
 | [] => True
 | j :: l => ((j < ops.size → L j = true) → V j (x j) w → V j (x j) w') ∧ AllPX V x L w w' l
theorem AllPX.get {V : Nat → Value → World → Prop} {x : Nat → Value} {L : Nat → Bool} {w w' : World} : ∀ {l : List Nat}, AllPX (ops := ops) V x L w w' l → ∀ j ∈ l, (j < ops.size → L j = true) → V j (x j) w → V j (x j) w'
 | [], _, _, h => by cases h
 | k :: l, h, j, hj => by
  rcases List.mem_cons.1 hj with rfl | hj
  ·exact h.1
  ·exact h.2.get j hj
theorem AllPX.same {V : Nat → Value → World → Prop} {x : Nat → Value} {L : Nat → Bool} {w : World} : ∀ (l : List Nat), AllPX (ops := ops) V x L w w l
 | [] => trivial
 | _ :: l => ⟨fun _ h => h, AllPX.same l⟩
theorem AllPX.of {V : Nat → Value → World → Prop} {x : Nat → Value} {L : Nat → Bool} {w w' : World} : ∀ (l : List Nat), (∀ j ∈ l, (j < ops.size → L j = true) → V j (x j) w → V j (x j) w') → AllPX (ops := ops) V x L w w' l
 | [], _ => trivial
 | k :: l, h => ⟨h k List.mem_cons_self, AllPX.of l (fun j hj => h j (List.mem_cons_of_mem _ hj))⟩
theorem wpAny_relyx {ds : List (Option Tmp)} {js es ps : List (List Nat)} {N : Nat} {Q : Exit → Act → World → Prop} {a0 : Act} {S : (Nat → Value) → (Nat → Bool) → World → Prop} {V : Nat → Value → World → Prop} (hok : Rely ops ds js es ps N)
  (hjs : ∀ i j, i < ops.size → j ∈ js.getD i [] → j < N) (hstep : ∀ i, i < ops.size → ∀ (x : Nat → Value) (L : Nat → Bool) (w : World), S x L w → L i = false → AllV V x w (js.getD i []) → (∀ e ∈ dirs ops i, L e = true) →
   StepV P ops i (putsOf ds x a0 (js.getD i [])) w (fun v w' => S (updX x i v) (updL L i) w' ∧ V i v w' ∧ AllPX (ops := ops) V x L w w' (ps.getD i [])))
  (hend : ∀ (x : Nat → Value) (L : Nat → Bool) (w : World), S x L w → (∀ j, j < ops.size → L j = true) → (∀ j, j < N → (∀ i, i < ops.size → j ∉ es.getD i []) → V j (x j) w) → Q .normal (putsOf ds x a0 (List.range ops.size)) w) :
  ∀ (fuel : Nat) (listed : Array Bool) (a : Act) (x : Nat → Value) (w : World), listed.size = ops.size → (∀ j, j < ops.size → listed.getD j false = true → ∀ e ∈ dirs ops j, listed.getD e false = true) → unl listed ≤ fuel → S x (fun k => listed.getD k false) w →
   (∀ j, j < N → (j < ops.size → listed.getD j false = true) → (∀ i, i < ops.size → listed.getD i false = true → j ∉ es.getD i []) → V j (x j) w) → FrV ops ds a0 x listed a → wpAny P .any ops Q fuel listed a w := by
 have hfin : ∀ (listed : Array Bool) (a : Act) (x : Nat → Value) (w : World), S x (fun k => listed.getD k false) w → (∀ j, j < ops.size → listed.getD j false = true) →
   (∀ j, j < N → (j < ops.size → listed.getD j false = true) → (∀ i, i < ops.size → listed.getD i false = true → j ∉ es.getD i []) → V j (x j) w) → FrV ops ds a0 x listed a → Q .normal a w := by
  intro listed a x w hS hall hV hF
  rw [hF.full hok hall]
  exact hend x _ w hS hall (fun j hj hn => hV j hj (hall j) (fun i hi _ => hn i hi))
 intro fuel
 induction fuel with
 | zero =>
  intro listed a x w hsz hdc hu hS hV hF
  have hall : ∀ j, j < ops.size → listed.getD j false = true := fun j hj => unl_zero (by omega) j (by omega)
  refine ⟨?_, hfin listed a x w hS hall hV hF⟩
  cases hr : Region.ready .any ops listed with
  | nil => rfl
  | cons i rs =>
   exfalso
   have hm : i ∈ Region.ready .any ops listed := by rw [hr]; exact List.mem_cons_self
   obtain ⟨h0, o, ho, _⟩ := mem_ready.1 hm
   have hi := (Array.getElem?_eq_some_iff.1 ho).1
   have := hall i hi
   rw [getD_tf (by omega) false true, h0] at this
   cases this
 | succ fuel ih =>
  intro listed a x w hsz hdc hu hS hV hF
  refine ⟨fun hr => hfin listed a x w hS ?_ hV hF, fun i hi => ?_⟩
  ·intro j
   induction j using Nat.strongRecOn with
   | ind j ihj =>
    intro hj
    cases hl : listed.getD j false with
    | true => rfl
    | false =>
     exfalso
     have hm : j ∈ Region.ready .any ops listed := by
      refine mem_ready.2 ⟨by rw [getD_tf (by omega) true false]; exact hl, ops[j], Array.getElem?_eq_getElem hj, fun e he hb => ?_⟩
      have hd := (dirs_mem (Array.getElem?_eq_getElem hj)).2 ⟨e, he, hb, rfl⟩
      have hlt := hok.back j e.on hj hd
      exact ihj e.on hlt (by omega)
     rw [hr] at hm
     cases hm
  ·obtain ⟨h0, o, ho, hall⟩ := mem_ready.1 hi
   have hin := (Array.getElem?_eq_some_iff.1 ho).1
   have hun : listed.getD i false = false := by rw [getD_tf (by omega) false true]; exact h0
   have hdi : ∀ e ∈ dirs ops i, listed.getD e false = true := fun e he => by
    obtain ⟨g, h1, h2, h3⟩ := (dirs_mem ho).1 he
    rw [← h3]; exact hall g h1 h2
   have hdl : ∀ e ∈ dirs ops i, e < ops.size := fun e he => Nat.lt_trans (hok.back i e hin he) hin
   have hds : o.dst = ds.getD i none := by
    rw [hok.ds_, List.getD_eq_getElem?_getD, List.getElem?_map, Array.getElem?_toList, ho]; rfl
   have hpre : ∀ j ∈ js.getD i [], V j (x j) w := fun j hj => by
    have hjd := hok.sub i j hin hj
    refine hV j (hjs i j hin hj) (fun hjn => hdi j (hjd.resolve_right (by omega))) (fun k hk hkl hjk => ?_)
    rcases hok.eats i k j hin hk hjk hj with e | e
    ·subst e
     rw [hun] at hkl; cases hkl
    ·have := hdc k hk hkl i e
     rw [hun] at this; cases this
   have hst := hstep i hin x _ w hS hun (AllV.of _ hpre) hdi
   have hz := putsOf_size ds x (js.getD i []) a0
   have hmv := StepV.move (Q := Q) (a := a) ho (Region.noSelect_spec hok.sel i o · · ho) (hF.size.trans hz.1.symm) (fun t ht => ?_) hst
   ·refine wpOp_mono (fun a' w' h => ?_) hmv
    obtain ⟨v, rfl, hS', hVi, hpr⟩ := h
    rw [hds]
    refine ih (listed.setIfInBounds i true) _ (fun j => if j = i then v else x j) w' (by simpa using hsz) ?_ ?_ (by rw [updL_set (by omega)] at hS'; exact hS') ?_ (hF.step hok hin hsz hun)
    ·intro j hj hl e he
     refine (set_getD (by omega)).2 (.inr ?_)
     rcases (set_getD (by omega)).1 hl with e2 | e2
     ·subst e2; exact hdi e he
     ·exact hdc j hj e2 e he
    ·have := unl_set (by omega) hun
     omega
    ·intro j hjN hl hn
     by_cases e : j = i
     ·subst e
      simpa using hVi
     ·simp only [if_neg e]
      have hps : j ∈ ps.getD i [] := by
       rcases hok.pres i j hin hjN with e2 | e2 | e2 | e2 | ⟨k, hk, e2⟩
       ·exact absurd e2.symm e
       ·exact e2
       ·exact absurd e2 (hn i hin ((set_getD (by omega)).2 (.inl rfl)))
       ·exfalso
        by_cases hjn : j < ops.size
        ·have := hdc j hjn (((set_getD (by omega)).1 (hl hjn)).resolve_left e) i e2
         rw [hun] at this; cases this
        ·unfold dirs at e2
         rw [Array.getElem?_eq_none (by omega)] at e2
         cases e2
       ·exact absurd e2 (hn k (hdl k hk) ((set_getD (by omega)).2 (.inr (hdi k hk))))
      refine hpr.get j hps (fun hjo => ?_) ?_
      ·exact ((set_getD (by omega)).1 (hl hjo)).resolve_left e
      exact hV j hjN (fun hj => ((set_getD (by omega)).1 (hl hj)).resolve_left e) (fun k hk hkl => hn k hk ((set_getD (by omega)).2 (.inr hkl)))
   ·have hnone : ∀ k, ops.size ≤ k → ds.getD k none = none := fun k hk => by
     rw [List.getD_eq_getElem?_getD, List.getElem?_eq_none (by rw [hok.ds_]; simpa using hk)]; rfl
    have hget : (ops.getD i default) = o := by
     rw [Array.getD_eq_getD_getElem?, ho]; rfl
    by_cases hsz2 : t < a0.tmps.size
    ·by_cases hex : ∃ j, j < ops.size ∧ listed.getD j false = true ∧ ds.getD j none = some t
     ·obtain ⟨j, hj, hl, hd⟩ := hex
      rw [hF.put j t hj hl hd hsz2]
      rcases hok.looks i j t hin hj hd (by rw [hget]; exact ht) with e | e | e
      ·subst e; rw [hun] at hl; cases hl
      ·refine (putsOf_new ds x t j _ a0 (fun k hk e2 => ?_) e hd hsz2).symm
       rcases hok.sub i k hin hk with e3 | e3
       ·exact hok.one k j t (hdl k e3) hj hd e2
       ·rw [hnone k e3] at e2; cases e2
      ·have := hdc j hj hl i e
       rw [hun] at this; cases this
     ·rw [hF.old t (fun j hj hl e => hex ⟨j, hj, hl, e⟩)]
      refine (putsOf_old ds x t _ a0 (fun j hj e => ?_)).symm
      rcases hok.sub i j hin hj with e3 | e3
      ·exact hex ⟨j, hdl j e3, hdi j e3, e⟩
      ·rw [hnone j e3] at e; cases e
    ·rw [Array.getElem?_eq_none (by rw [hF.size]; exact Nat.le_of_not_lt hsz2), Array.getElem?_eq_none (by rw [hz.1]; exact Nat.le_of_not_lt hsz2)]
def RelyStepX (P : Program) (ops : Array Oper) (ds : List (Option Tmp)) (js ps : List (List Nat)) (a0 : Act) (S : (Nat → Value) → (Nat → Bool) → World → Prop) (V : Nat → Value → World → Prop) (i : Nat) : Prop :=
 ∀ (x : Nat → Value) (L : Nat → Bool) (w : World), S x L w → L i = false → AllV V x w (js.getD i []) → (∀ e ∈ dirs ops i, L e = true) → StepV P ops i (putsOf ds x a0 (js.getD i [])) w (fun v w' => S (updX x i v) (updL L i) w' ∧ V i v w' ∧ AllPX (ops := ops) V x L w w' (ps.getD i []))
def RelyStepsX (P : Program) (ops : Array Oper) (ds : List (Option Tmp)) (js ps : List (List Nat)) (a0 : Act) (S : (Nat → Value) → (Nat → Bool) → World → Prop) (V : Nat → Value → World → Prop) (is : List Nat) : Prop :=
 ∀ i ∈ is, RelyStepX P ops ds js ps a0 S V i
theorem RelyStepsX.nil {ds : List (Option Tmp)} {js ps : List (List Nat)} {a0 : Act} {S : (Nat → Value) → (Nat → Bool) → World → Prop} {V : Nat → Value → World → Prop} : RelyStepsX P ops ds js ps a0 S V [] := fun _ h => by cases h
theorem RelyStepsX.cons {ds : List (Option Tmp)} {js ps : List (List Nat)} {a0 : Act} {S : (Nat → Value) → (Nat → Bool) → World → Prop} {V : Nat → Value → World → Prop} {i : Nat} {is : List Nat} (h : RelyStepX P ops ds js ps a0 S V i)
  (hs : RelyStepsX P ops ds js ps a0 S V is) : RelyStepsX P ops ds js ps a0 S V (i :: is) := fun k hk => by
 rcases List.mem_cons.1 hk with rfl | hk
 ·exact h
 ·exact hs k hk
theorem RelyStepX.mk {ds : List (Option Tmp)} {js ps : List (List Nat)} {a0 : Act} {S : (Nat → Value) → (Nat → Bool) → World → Prop} {V : Nat → Value → World → Prop} {i : Nat} {o : Oper} (J K : List Nat) (ho : ops[i]? = some o) (hJ : js.getD i [] = J) (hK : ps.getD i [] = K)
  (h : ∀ (x : Nat → Value) (L : Nat → Bool) (w : World), S x L w → L i = false → (∀ e ∈ dirs ops i, L e = true) → AllV V x w J → ∀ (b : Act), b = putsOf ds x a0 J → ∀ K' : Act → World → Prop, Shut (∀ a' w', (∃ v, a' = b.put o.dst v ∧ S (updX x i v) (updL L i) w' ∧ V i v w' ∧ AllPX (ops := ops) V x L w w' K) → K' a' w') →
   if Region.wanted o (yielded ops b.tmps) = true then Oper.wp P o b w K' QF else K' (b.put o.dst undef) w) : RelyStepX P ops ds js ps a0 S V i := by
 intro x L w hS hL hV hd
 rw [hJ] at hV ⊢
 rw [hK]
 exact StepV.mk ho (fun K' hK' => h x L w hS hL hd hV _ rfl K' hK')
theorem wp_region_relyx {id : Nat} {a0 : Act} {w : World} {Q : Exit → Act → World → Prop} (S : (Nat → Value) → (Nat → Bool) → World → Prop) (V : Nat → Value → World → Prop) (ds : List (Option Tmp)) (js es ps : List (List Nat)) (is : List Nat) (N : Nat) (hm : P.follows .mixedOrders = true)
  (hok : relyB ops ds js es ps N = true) (hjs : js.all (fun l => l.all (fun j => decide (j < N))) = true) (his : List.range ops.size = is) (hS : S (fun _ => undef) (fun _ => false) w.drew) (hI : ∀ j, j < N → ops.size ≤ j → V j undef w.drew) (hsteps : RelyStepsX P ops ds js ps a0 S V is)
  (hend : ∀ (x : Nat → Value) (L : Nat → Bool) (w : World), S x L w → (∀ j, j < ops.size → L j = true) → (∀ j, j < N → (is.all fun i => !(es.getD i []).contains j) = true → V j (x j) w) → Q .normal (putsOf ds x a0 is) w) : (Code.region id ops true).wp P Q a0 w := by
 subst his
 have hjs2 : ∀ i j, i < ops.size → j ∈ js.getD i [] → j < N := fun i j _ hj => by
  rw [List.getD_eq_getElem?_getD] at hj
  cases hg : js[i]? with
  | none => rw [hg] at hj; cases hj
  | some l =>
   rw [hg] at hj
   have := List.all_eq_true.1 (List.all_eq_true.1 hjs l (List.mem_of_getElem? hg)) j hj
   simpa using this
 refine wp_region_any hm (wpAny_relyx (Rely.of hok) hjs2 (fun i hi => hsteps i (List.mem_range.2 hi)) (fun x L w h1 hL h2 => hend x L w h1 hL (fun j hj hn => h2 j hj (fun i hi hc => ?_))) ops.size _ a0 (fun _ => undef) _ (by simp) (fun j hj h => ?_) ?_ (by rw [none_listed]; exact hS) (fun j hj h hn => ?_) ⟨rfl, rfl, fun j t hj h => ?_, fun _ _ => rfl⟩)
 ·have := List.all_eq_true.1 hn i (List.mem_range.2 hi)
  rw [List.contains_iff_mem.2 hc] at this
  cases this
 ·simp [hj] at h
 ·unfold unl
  refine Nat.le_trans List.countP_le_length (by simp)
 ·refine hI j hj (Nat.le_of_not_lt fun hj => ?_)
  have := h hj
  simp [hj] at this
 ·simp [hj] at h
end
structure Bf where
 P : Value → World → Prop
 mono : ∀ u q q', Below q.heap.size q q' → P u q → P u q'
 lit : Bool
 free : lit = true → ∀ u q q', P u q → P u q'
def Bf.any : Bf := ⟨fun _ _ => True, fun _ _ _ _ _ => trivial, true, fun _ _ _ _ _ => trivial⟩
def Bf.eq (v : Value) : Bf := ⟨fun u _ => u = v, fun _ _ _ _ h => h, true, fun _ _ _ _ h => h⟩
def Bf.own (N : Nat) (e : TypeId) (sz n : Nat) (xs : List Value) : Bf := ⟨fun u q => q.ownsRow N e sz u n xs, fun _ _ _ b h => owns_kept h (Kept.of_below b) (fun _ _ _ _ hf => hf), false, fun h => nomatch h⟩
def Bf.of (P : Value → World → Prop) (h : ∀ u q q', Below q.heap.size q q' → P u q → P u q') : Bf := ⟨P, h, false, fun h => nomatch h⟩
def bfV (fs : List Bf) (j : Nat) (u : Value) (q : World) : Prop := (fs.getD j .any).P u q
section
variable {fs : List Bf} {j : Nat} {u : Value} {q q' : World}
theorem bfV_below (hb : Below q.heap.size q q') (h : bfV fs j u q) : bfV fs j u q' := (fs.getD j .any).mono _ _ _ hb h
theorem bfV_lit {l : List Nat} (hl : l.all (fun j => (fs.getD j .any).lit) = true) (hj : j ∈ l) (h : bfV fs j u q) : bfV fs j u q' := (fs.getD j .any).free (List.all_eq_true.1 hl j hj) _ _ _ h
end
def PuS (w9 : World) (vt : Value) (F o ia it : Nat) (all pre : List Nat) (R : Value → World → Prop) (x : Nat → Value) (L : Nat → Bool) (q : World) : Prop :=
 ∃ q1, (L it = false → q = q1) ∧ (L it = true → q = q1.setCell ⟨F, o, none⟩ (x ia) ∧ ∀ j ∈ all, L j = true) ∧ Kept (fun k => vt.ownBlock = some k) w9 q1 ∧ (L ia = false → Below w9.heap.size w9 q1) ∧ (L ia = true → R (x ia) q1 ∧ ∀ j ∈ pre, L j = true)
section
variable {w9 : World} {vt v : Value} {F o ia it : Nat} {all pre : List Nat} {R : Value → World → Prop} {x : Nat → Value} {L : Nat → Bool} {q q' : World} {i : Nat}
theorem pupdL_ne {k : Nat} (h : k ≠ i) : updL L i k = L k := by unfold updL; simp [h]
theorem pupdL_self : updL L i i = true := by unfold updL; simp
theorem pupdX_ne {k : Nat} (h : k ≠ i) : updX x i v k = x k := if_neg h
theorem pupdX_self : updX x i v i = v := if_pos rfl
theorem pupdL_le {k : Nat} (h : L k = true) : updL L i k = true := by unfold updL; simp [h]
theorem pu_start : PuS w9 vt F o ia it all pre R x (fun _ => false) (w9.drewN 1) := ⟨_, fun _ => rfl, fun h => (Bool.false_ne_true h).elim, Kept.drewN _ _ _, fun _ => below_drewN (Below.refl _ _) 1, fun h => (Bool.false_ne_true h).elim⟩
theorem pu_no (h : PuS w9 vt F o ia it all pre R x L q) (hL : L i = false) (hi : all.contains i = true) : L it = false := by
 obtain ⟨q1, _, h2, _⟩ := h
 by_cases h16 : L it = true
 ·have := (h2 h16).2 i (List.contains_iff_mem.1 hi)
  rw [hL] at this; exact (Bool.false_ne_true this).elim
 ·exact Bool.eq_false_iff.2 h16
theorem pu_op (hi : (i != it && i != ia) = true) (h : PuS w9 vt F o ia it all pre R x L q) (hL : L i = false := by assumption) : PuS w9 vt F o ia it all pre R (updX x i v) (updL L i) q := by
 rw [Bool.and_eq_true, bne_iff_ne, bne_iff_ne] at hi
 obtain ⟨q1, h1, h2, h3, h4, h5⟩ := h
 refine ⟨q1, fun e => h1 ?_, fun e => ?_, h3, fun e => h4 ?_, fun e => ?_⟩
 ·rwa [pupdL_ne (Ne.symm hi.1)] at e
 ·rw [pupdL_ne (Ne.symm hi.1)] at e
  rw [pupdX_ne (Ne.symm hi.2)]; exact ⟨(h2 e).1, fun j hj => pupdL_le ((h2 e).2 j hj)⟩
 ·rwa [pupdL_ne (Ne.symm hi.2)] at e
 ·rw [pupdL_ne (Ne.symm hi.2)] at e
  rw [pupdX_ne (Ne.symm hi.2)]; exact ⟨(h5 e).1, fun j hj => pupdL_le ((h5 e).2 j hj)⟩
theorem pu_bel (h : PuS w9 vt F o ia it all pre R x L q) (hL : L ia = false) (hi : all.contains ia = true) : Below w9.heap.size w9 q := by
 have h16 := pu_no h hL hi
 obtain ⟨q1, h1, _, _, h4, _⟩ := h
 rw [h1 h16]; exact h4 hL
theorem pu_at (h : PuS w9 vt F o ia it all pre R x L q) (hL : L i = false) (hi : all.contains i = true) : Kept (fun k => vt.ownBlock = some k) w9 q := by
 have h16 := pu_no h hL hi
 obtain ⟨q1, h1, _, h3, _⟩ := h
 rw [h1 h16]; exact h3
theorem pu_nil (h : PuS w9 (.slice none 0 0) F o ia it all pre R x L q) (hL : L i = false) (hi : all.contains i = true) : Below w9.heap.size w9 q := (pu_at h hL hi).below (Nat.le_refl _) (fun k _ (e : (Value.slice none 0 0).ownBlock = some k) => by cases e)
theorem pu_not (h : PuS w9 vt F o ia it all pre R x L q) (hi : pre.contains i = true) (hL : L i = false) : L ia = false := by
 by_cases ha : L ia = true
 ·obtain ⟨q1, _, _, _, _, h5⟩ := h
  have := (h5 ha).2 i (List.contains_iff_mem.1 hi)
  rw [hL] at this; exact (Bool.false_ne_true this).elim
 ·exact Bool.eq_false_iff.2 ha
theorem pu_more (hi : (i != it && (i != ia && (all.contains ia && pre.contains i))) = true) (h : PuS w9 vt F o ia it all pre R x L q) (hb : Below q.heap.size q q') (hL : L i = false := by assumption) : PuS w9 vt F o ia it all pre R (updX x i v) (updL L i) q' := by
 rw [Bool.and_eq_true, bne_iff_ne, Bool.and_eq_true, bne_iff_ne, Bool.and_eq_true] at hi
 have hA := pu_not h hi.2.2.2 hL
 have h16 := pu_no h hA hi.2.2.1
 have hbl := pu_bel h hA hi.2.2.1
 have hbq := then_ hbl hb
 refine ⟨q', fun _ => rfl, fun e => ?_, (Kept.of_below hbq).mono (fun _ _ (hx : False) => hx.elim), fun _ => hbq, fun e => ?_⟩
 ·rw [pupdL_ne (Ne.symm hi.1), h16] at e; exact (Bool.false_ne_true e).elim
 ·rw [pupdL_ne (Ne.symm hi.2.1), hA] at e; exact (Bool.false_ne_true e).elim
theorem pu_app (hi : (ia != it && all.contains ia) = true) (h : PuS w9 vt F o ia it all pre R x L q) (hk : Kept (fun k => vt.ownBlock = some k) q q') (hv : R v q') (hp : ∀ j ∈ pre, L j = true) (hL : L ia = false := by assumption) : PuS w9 vt F o ia it all pre R (updX x ia v) (updL L ia) q' := by
 rw [Bool.and_eq_true, bne_iff_ne] at hi
 have h16 := pu_no h hL hi.2
 have hb := pu_bel h hL hi.2
 refine ⟨q', fun _ => rfl, fun e => ?_, ((Kept.of_below hb).mono (fun _ _ (hx : False) => hx.elim)).trans hk (fun _ _ h => h), fun e => ?_, fun _ => ?_⟩
 ·rw [pupdL_ne (Ne.symm hi.1), h16] at e; exact (Bool.false_ne_true e).elim
 ·rw [pupdL_self] at e; exact (Bool.false_ne_true e.symm).elim
 ·rw [pupdX_self]; exact ⟨hv, fun j hj => pupdL_le (hp j hj)⟩
theorem pu_store (hi : (ia != it && all.contains ia) = true) (h : PuS w9 vt F o ia it all pre R x L q) (hall : ∀ j ∈ all, L j = true) (hL : L it = false := by assumption) : PuS w9 vt F o ia it all pre R (updX x it v) (updL L it) (q.setCell ⟨F, o, none⟩ (x ia)) := by
 rw [Bool.and_eq_true, bne_iff_ne] at hi
 have h10 := hall ia (List.contains_iff_mem.1 hi.2)
 obtain ⟨q1, h1, _, h3, _, h5⟩ := h
 have e := h1 hL
 subst e
 refine ⟨q, fun e => ?_, fun _ => ⟨by rw [pupdX_ne hi.1], fun j hj => pupdL_le (hall j hj)⟩, h3, fun e => ?_, fun _ => ?_⟩
 ·rw [pupdL_self] at e; exact (Bool.false_ne_true e.symm).elim
 ·rw [pupdL_ne hi.1, h10] at e; exact (Bool.false_ne_true e.symm).elim
 ·have h6 := h5 h10
  rw [pupdX_ne hi.1]; exact ⟨h6.1, fun j hj => pupdL_le (h6.2 j hj)⟩
theorem pu_st (h : PuS w9 vt F o ia it all pre R x L q) (hL : L it = false) (hA : L ia = true) : Kept (fun k => vt.ownBlock = some k) w9 q ∧ R (x ia) q := by
 obtain ⟨q1, h1, _, h3, _, h5⟩ := h
 have e := h1 hL
 subst e
 exact ⟨h3, (h5 hA).1⟩
theorem pu_end (h : PuS w9 vt F o ia it all pre R x L q) (h1 : L ia = true) (h2 : L it = true) : ∃ q1, q = q1.setCell ⟨F, o, none⟩ (x ia) ∧ Kept (fun k => vt.ownBlock = some k) w9 q1 ∧ R (x ia) q1 := by
 obtain ⟨q1, _, h3, h4, _, h5⟩ := h
 exact ⟨q1, (h3 h2).1, h4, (h5 h1).1⟩
end
theorem fold_put (cs : List Value) : ∀ (off k : Nat) (zs : Array Value), off + k + cs.length ≤ zs.size →
  ((cs.zipIdx k).foldl (fun (a : Array Value) (p : Value × Nat) => a.setIfInBounds (off + p.2) p.1) zs).toList = zs.toList.take (off + k) ++ cs ++ zs.toList.drop (off + k + cs.length) := by
 induction cs with
 | nil => intro off k zs h; simp
 | cons c cs ih =>
  intro off k zs h
  simp only [List.length_cons] at h
  rw [List.zipIdx_cons, List.foldl_cons, ih off (k + 1) _ (by simp; omega)]
  simp only [Array.toList_setIfInBounds, List.length_cons]
  have hl : off + k < zs.toList.length := by rw [Array.length_toList]; omega
  rw [show off + (k + 1) = off + k + 1 by omega, List.take_set, List.drop_set, if_pos (by omega), List.take_add_one, List.getElem?_eq_getElem hl]
  simp only [Option.toList_some]
  rw [List.set_append_right _ _ (by rw [List.length_take]; omega), List.length_take, Nat.min_eq_left (by omega), Nat.sub_self]
  simp [List.append_assoc]
  congr 1; omega
section
variable {P : Program} {o : Oper} {a : Act} {w : World} {K : Act → World → Prop} {Q : Exit → Act → World → Prop}
theorem wp_load_known (ty : TypeId) (x : Operand) (ho : o.op = .load ty x) (b off : Nat) (hx : a.eval x = .pointer (some ⟨b, off, none⟩)) (v : Value) (hl : (loadVar ty ⟨b, off, none⟩).run P w = .ok v w) (hn : K (a.put o.dst v) w) : o.wp P a w K Q := by
 unfold Oper.wp execOp
 simp only [ho, hx, Instr.loadAt, Instr.sureAddr, Sem.run_bind, Sem.run_pure, Result.andThen_ok, hl]
 exact hn
theorem wp_build1_known (ty : TypeId) (x : Operand) (ho : o.op = .build ty #[(0, x)]) (u z : Value) (hx : a.eval x = u) (hl : (Instr.build ty #[(0, u)]).run P w = .ok z w) (hn : K (a.put o.dst z) w) : o.wp P a w K Q := by
 unfold Oper.wp execOp
 simp only [ho, Sem.run_bind, Sem.run_pure, Result.andThen_ok]
 simp [hx, hl]
 exact hn
theorem wp_build0_known (ty : TypeId) (ho : o.op = .build ty #[]) (z : Value) (hl : (Instr.build ty #[]).run P w = .ok z w) (hn : K (a.put o.dst z) w) : o.wp P a w K Q := by
 unfold Oper.wp execOp
 simp only [ho, Sem.run_bind, Sem.run_pure, Result.andThen_ok]
 simp [hl]
 exact hn
theorem fill_one (n : Nat) (zs : Array Value) (cs : List Value) (hz : zs.size = n) (hc : cs.length = n) : Instr.fill (fun i => some (i * n, n)) zs [(0, .agg cs.toArray)] = some cs.toArray := by
 simp [Instr.fill, Value.cells, hc, hz]
 have h1 := fold_put cs 0 0 zs (by omega)
 simp only [Nat.zero_add, List.take_zero, List.nil_append, hc] at h1
 rw [List.drop_of_length_le (by rw [Array.length_toList]; omega), List.append_nil] at h1
 apply Array.toList_inj.1
 rw [h1]
theorem wp_lit1_known (t e : TypeId) (x : Operand) (ho : o.op = .buildSlice t 1 #[(0, x)]) (cs : List Value) (n bytes : Nat) (z : Value) (hx : a.eval x = .agg cs.toArray) (hu : P.underlying t = some (.slice e)) (hi : (P.info? e).map (fun i => (i.zero, i.size, i.bytes)) = some (some z, n, bytes)) (h0 : 0 < n) (h1 : n ≤ 10000) (hc : cs.length = n)
  (hn : K (a.put o.dst (.slice (some ⟨w.heap.size, 0, none⟩) 1 1)) (w.alloc (.cells cs.toArray e))) : o.wp P a w K Q := by
 obtain ⟨ie, hie, hz, hs, _⟩ := info_parts hi
 refine wp_buildSlice t e 1 _ ho cs.toArray ie z hu hie hz (by rw [hs]; omega) (by rw [hs]; omega) ?_ hn
 rw [hs]
 have := fill_one n ((Array.range (1 * n)).map (z.cells[· % z.cells.size]!)) cs (by simp) hc
 simpa [hx] using this
variable {ops : Array Oper} {rest : List Oper} {Q2 : Exit → Act → World → Prop}
theorem wpList_load_known (hg : o.guard = none) (ty : TypeId) (x : Operand) (ho : o.op = .load ty x) (b off : Nat) (hx : a.eval x = .pointer (some ⟨b, off, none⟩)) (v : Value) (hl : (loadVar ty ⟨b, off, none⟩).run P w = .ok v w) (hn : wpList P ops Q2 rest (a.put o.dst v) w) : wpList P ops Q2 (o :: rest) a w :=
 wpList_plain hg fun _ hK => wp_load_known ty x ho b off hx v hl (hK _ _ hn)
theorem wpList_build0_known (hg : o.guard = none) (ty : TypeId) (ho : o.op = .build ty #[]) (z : Value) (hl : (Instr.build ty #[]).run P w = .ok z w) (hn : wpList P ops Q2 rest (a.put o.dst z) w) : wpList P ops Q2 (o :: rest) a w :=
 wpList_plain hg fun _ hK => wp_build0_known ty ho z hl (hK _ _ hn)
theorem wpList_lit1_known (hg : o.guard = none) (t e : TypeId) (x : Operand) (ho : o.op = .buildSlice t 1 #[(0, x)]) (cs : List Value) (n bytes : Nat) (z : Value) (hx : a.eval x = .agg cs.toArray) (hu : P.underlying t = some (.slice e)) (hi : (P.info? e).map (fun i => (i.zero, i.size, i.bytes)) = some (some z, n, bytes)) (h0 : 0 < n) (h1 : n ≤ 10000) (hc : cs.length = n)
  (hn : wpList P ops Q2 rest (a.put o.dst (.slice (some ⟨w.heap.size, 0, none⟩) 1 1)) (w.alloc (.cells cs.toArray e))) : wpList P ops Q2 (o :: rest) a w :=
 wpList_plain hg fun _ hK => wp_lit1_known t e x ho cs n bytes z hx hu hi h0 h1 hc (hK _ _ hn)
end
section
variable {P : Program} {F : Func} {a : Array Value} {w : World} {g p q : Nat} {t : TypeId} {u v : Value}
theorem res_cell1 (hF : F.results = #[.cell p t]) (ha : a.getD p undef = .pointer (some ⟨g, 0, none⟩)) (hl : (loadVar t ⟨g, 0, none⟩).run P w = .ok v w) : (results F a).run P w = .ok v w := by
 unfold results
 rw [hF]
 simp only [Array.getD_eq_getD_getElem?] at ha
 simp [ha, asAddr, hl]
theorem res_cell2 (hF : F.results = #[.cell p t, .tmp q]) (ha : a.getD p undef = .pointer (some ⟨g, 0, none⟩)) (hu : a.getD q undef = u) (hl : (loadVar t ⟨g, 0, none⟩).run P w = .ok v w) : (results F a).run P w = .ok (.tuple #[v, u]) w := by
 unfold results
 rw [hF]
 simp only [Array.getD_eq_getD_getElem?] at ha hu
 simp [ha, hu, asAddr, hl]
end
abbrev thZ2 : Array Value := #[.int .i64 0, .int .i64 0, .int .i64 0, .int .i64 0, .int .u64 0, .int .u64 0, .int .u64 0, .int .u64 0, .int .u64 0, .int .u64 0, .int .u64 0, .int .u64 0, .int .u64 0, .slice none 0 0]
abbrev stZ2 : Array Value := #[.slice none 0 0, .slice none 0 0, .int .u64 0, .int .u64 0, .bool false]
abbrev rgZ2 : Array Value := #[.int .u64 0, .slice none 0 0, .bool false, .slice none 0 0]
abbrev rgC2 (tl : Nat) (hv : Value) (cl : Bool) (sv : Value) : Array Value := #[.int .u64 (tl : Int), hv, .bool cl, sv]
theorem infoTh2 : (Try.prog.info? 40).map (·.size) = some 14 := by kernel_rfl
theorem infoRg2 : (Try.prog.info? 54).map (·.size) = some 4 := by kernel_rfl
theorem infoSt2 : (Try.prog.info? 26).map (·.size) = some 5 := by kernel_rfl
theorem infoSl2 : (Try.prog.info? 64).map (·.size) = some 3 := by kernel_rfl
theorem infoThT2 : (Try.prog.info? 40).map (fun i => (i.zero, i.size, i.bytes)) = some (some (.agg thZ2), 14, 128) := by kernel_rfl
theorem infoRgT2 : (Try.prog.info? 54).map (fun i => (i.zero, i.size, i.bytes)) = some (some (.agg rgZ2), 4, 64) := by kernel_rfl
theorem infoSlT2 : (Try.prog.info? 64).map (fun i => (i.zero, i.size, i.bytes)) = some (some (.agg #[.int .u64 0, .int .u64 0, .int .i64 0]), 3, 24) := by kernel_rfl
theorem thUnd2 : Try.prog.underlying 40 = some (.struct (Try.prog.fieldsOf 40)) := by kernel_rfl
theorem rgUnd2 : Try.prog.underlying 54 = some (.struct (Try.prog.fieldsOf 54)) := by kernel_rfl
theorem stUnd2 : Try.prog.underlying 26 = some (.struct (Try.prog.fieldsOf 26)) := by kernel_rfl
theorem slUnd2 : Try.prog.underlying 64 = some (.struct (Try.prog.fieldsOf 64)) := by kernel_rfl
theorem thC_one2 {x : Th} {v : Value} (h : v.oneCell' = true) : (thC x v).all (·.oneCell') = true := by
 rw [Array.all_eq_true_iff_forall_mem]
 intro u hu
 simp at hu
 rcases hu with rfl | rfl | rfl | rfl | rfl | rfl | rfl | rfl | rfl | rfl | rfl | rfl | rfl | rfl <;> first | rfl | exact h
theorem stC_one2 {tv rv : Value} {n r : Nat} {b : Bool} (h1 : tv.oneCell' = true) (h2 : rv.oneCell' = true) : (stC tv rv n r b).all (·.oneCell') = true := by
 rw [Array.all_eq_true_iff_forall_mem]
 intro u hu
 simp at hu
 rcases hu with rfl | rfl | rfl | rfl | rfl <;> first | rfl | exact h1 | exact h2
theorem rgC_one2 {n : Nat} {hv sv : Value} {b : Bool} (h1 : hv.oneCell' = true) (h2 : sv.oneCell' = true) : (rgC2 n hv b sv).all (·.oneCell') = true := by
 rw [Array.all_eq_true_iff_forall_mem]
 intro u hu
 simp at hu
 rcases hu with rfl | rfl | rfl | rfl <;> first | rfl | exact h1 | exact h2
theorem thP_one2 (p : Th × Value) (h : p.2.oneCell' = true) : ∀ u ∈ thP p, u.oneCell' = true := fun u hu => by
 unfold thP at hu
 simp at hu
 rcases hu with rfl | rfl | rfl | rfl | rfl | rfl | rfl | rfl | rfl | rfl | rfl | rfl | rfl | rfl <;> first | rfl | exact h
theorem rgP_one2 (p : Rs × Value × Value) (h1 : p.2.1.oneCell' = true) (h2 : p.2.2.oneCell' = true) : ∀ u ∈ rgP p, u.oneCell' = true := fun u hu => by
 unfold rgP at hu
 simp at hu
 rcases hu with rfl | rfl | rfl | rfl <;> first | rfl | exact h1 | exact h2
theorem th_load2 {q : World} {b off : Nat} {x : Th} {v : Value} (h : ∀ (j : Nat) (u : Value), (thP (x, v))[j]? = some u → q.cell? ⟨b, off + j, none⟩ = some u) : (loadVar 40 ⟨b, off, none⟩).run Try.prog q = .ok (.agg (thC x v)) q := by
 exact run_loadVar_mid q b off _ (thP (x, v)) _ h thUnd2 rfl infoTh2
theorem th_loadL2 {q : World} {b : Nat} {x : Th} {v : Value} (h : Lies q b 40 (thC x v)) : (loadVar 40 ⟨b, 0, none⟩).run Try.prog q = .ok (.agg (thC x v)) q :=
 th_load2 fun j u hu => by rw [Nat.zero_add, h.cell, ← hu]; unfold thP; rw [Array.getElem?_toList]
theorem rg_load2 {q : World} {b off : Nat} {x : Rs} {v u : Value} (h : ∀ (j : Nat) (y : Value), (rgP (x, v, u))[j]? = some y → q.cell? ⟨b, off + j, none⟩ = some y) : (loadVar 54 ⟨b, off, none⟩).run Try.prog q = .ok (.agg (rgC2 x.tl v x.cl u)) q := by
 exact run_loadVar_mid q b off _ (rgP (x, v, u)) _ h rgUnd2 rfl infoRg2
theorem sl_load2 {q : World} {b off : Nat} {x : Sl} (h : ∀ (j : Nat) (y : Value), (slF x)[j]? = some y → q.cell? ⟨b, off + j, none⟩ = some y) : (loadVar 64 ⟨b, off, none⟩).run Try.prog q = .ok (.agg (slF x).toArray) q := by
 exact run_loadVar_mid q b off _ (slF x) _ h slUnd2 rfl infoSl2
theorem st_loadL2 {q : World} {b n r : Nat} {tv rv : Value} {e : Bool} (h : Lies q b 26 (stC tv rv n r e)) : (loadVar 26 ⟨b, 0, none⟩).run Try.prog q = .ok (.agg (stC tv rv n r e)) q := by
 refine run_loadVar_mid q b 0 _ (stC tv rv n r e).toList _ (fun j u hu => ?_) stUnd2 rfl infoSt2
 rw [Nat.zero_add, h.cell, ← hu, Array.getElem?_toList]
theorem rg_loadL2 {q : World} {b tl : Nat} {hv sv : Value} {e : Bool} (h : Lies q b 54 (rgC2 tl hv e sv)) : (loadVar 54 ⟨b, 0, none⟩).run Try.prog q = .ok (.agg (rgC2 tl hv e sv)) q := by
 refine run_loadVar_mid q b 0 _ (rgC2 tl hv e sv).toList _ (fun j u hu => ?_) rgUnd2 rfl infoRg2
 rw [Nat.zero_add, h.cell, ← hu, Array.getElem?_toList]
theorem srcSm (m : Nat) (M : Int) (hM : M = (m : Int)) (g R : Nat) (s : ByteArray) (i : Nat) (f : Bool) (w : World) (h : SrcAt w g R s i f) (hm : m ≤ 1000000) : Calls Try.prog 42 #[.pointer (some ⟨g, 0, none⟩), .int .i64 M] w fun e w' =>
  e = .returned (.int .i64 ((rdS m s i f).1 : Int)) ∧ SrcAt w' g R s (rdS m s i f).2.1 (rdS m s i f).2.2 ∧ Kept (srcR g R) w w' := by
 subst hM; exact srcSmall m g R s i f w h hm
theorem srcLs (m : Nat) (M : Int) (hM : M = (m : Int)) (g R : Nat) (s : ByteArray) (i : Nat) (f : Bool) (w : World) (h : SrcAt w g R s i f) (hm : m ≤ 1000000) (hs : s.size ≤ 1099511627776) : Calls Try.prog 57 #[.pointer (some ⟨g, 0, none⟩), .int .i64 M] w fun e w' =>
  ∃ v, e = .returned v ∧ w'.ownsRow w.heap.size 24 1 v (rdL m s i f).1.length (cells64 (rdL m s i f).1) ∧ SrcAt w' g R s (rdL m s i f).2.1 (rdL m s i f).2.2 ∧ Kept (srcR g R) w w' := by
 subst hM; exact srcList m g R s i f w h hm hs
theorem kept_row2 {w : World} {g : Nat} (cs : Array Value) : Kept (oneRow g) w (w.setRow g cs) :=
 ⟨rfl, rfl, rfl, by unfold World.setRow; simp, fun k _ hk => setRow_other w g k cs (fun e => hk e)⟩
theorem lies_row2 {w : World} {g : Nat} {t : TypeId} {old : Array Value} (h : Lies w g t old) (cs : Array Value) : Lies (w.setRow g cs) g t cs := by
 unfold Lies at h ⊢
 unfold World.setRow
 simp [Array.getElem?_modify, h]
def OwL (w : World) (B : Nat) (e : TypeId) (sz n : Nat) (xs : List Value) (v : Value) : Prop := ∃ A c, v = Value.slice A n c ∧ w.ownsRow B e sz v n xs
abbrev OwT (w : World) (B : Nat) (v : Value) (l : List Th) : Prop := ∃ ps : List (Th × Value), ps.map (·.1) = l ∧ w.ownsRow B 40 14 v l.length (rowsOf thP ps) ∧ ∀ p ∈ ps, OwL w B 24 1 p.1.sn.length (cells64 p.1.sn) p.2
abbrev OwR (w : World) (B : Nat) (v : Value) (l : List Rs) : Prop := ∃ qs : List (Rs × Value × Value), qs.map (·.1) = l ∧ w.ownsRow B 54 4 v l.length (rowsOf rgP qs) ∧ ∀ q ∈ qs, OwL w B 24 1 q.1.hs.length (cells64 q.1.hs) q.2.1 ∧ OwL w B 64 3 q.1.sl.length (rowsOf slF q.1.sl) q.2.2
section
variable {w w' : World} {B n sz : Nat} {e : TypeId} {xs : List Value} {v : Value}
theorem own_form2 (h : w.ownsRow B e sz v n xs) : ∃ A c, v = .slice A n c ∧ n ≤ c ∧ c ≤ 9223372036854775807 := by
 obtain ⟨A, c, e, h4, h5, _⟩ := (SeqS.of_owns h).form
 unfold maxLen at h5
 exact ⟨A, c, e, h4, by omega⟩
theorem owL_of (h : w.ownsRow B e sz v n xs) : OwL w B e sz n xs v := by
 obtain ⟨A, c, e1, _⟩ := own_form2 h
 exact ⟨A, c, e1, h⟩
theorem OwL.kept {S : Nat → Prop} (h : OwL w B e sz n xs v) (k : Kept S w w') (hS : ∀ r cur, Lies w r e cur → ¬ S r) : OwL w' B e sz n xs v := by
 obtain ⟨A, c, e1, h⟩ := h
 exact ⟨A, c, e1, owns_kept h k (fun r cur _ hl => hS r cur hl)⟩
theorem OwL.mono {B' : Nat} (h : OwL w B e sz n xs v) (hB : B' ≤ B) : OwL w B' e sz n xs v := by
 obtain ⟨A, c, e1, h⟩ := h
 exact ⟨A, c, e1, owns_mono h hB⟩
theorem OwL.one (h : OwL w B e sz n xs v) : v.oneCell' = true := by obtain ⟨A, c, rfl, _⟩ := h; rfl
theorem owT_kept {S : Nat → Prop} {l : List Th} (h : OwT w B v l) (k : Kept S w w') (hS : ∀ r e cur, Lies w r e cur → (e = 40 ∨ e = 24) → ¬ S r) : OwT w' B v l := by
 obtain ⟨ps, h1, h2, h3⟩ := h
 exact ⟨ps, h1, owns_kept h2 k (fun r cur _ hl => hS r _ cur hl (.inl rfl)), fun p hp => (h3 p hp).kept k (fun r cur hl => hS r _ cur hl (.inr rfl))⟩
theorem owR_kept {S : Nat → Prop} {l : List Rs} (h : OwR w B v l) (k : Kept S w w') (hS : ∀ r e cur, Lies w r e cur → (e = 54 ∨ e = 24 ∨ e = 64) → ¬ S r) : OwR w' B v l := by
 obtain ⟨qs, h1, h2, h3⟩ := h
 exact ⟨qs, h1, owns_kept h2 k (fun r cur _ hl => hS r _ cur hl (.inl rfl)), fun q hq => ⟨(h3 q hq).1.kept k (fun r cur hl => hS r _ cur hl (.inr (.inl rfl))), (h3 q hq).2.kept k (fun r cur hl => hS r _ cur hl (.inr (.inr rfl)))⟩⟩
theorem owT_nil : OwT w B (.slice none 0 0) [] := ⟨[], rfl, World.ownsRow_nil _ _ _ _, fun p hp => by cases hp⟩
theorem owR_nil : OwR w B (.slice none 0 0) [] := ⟨[], rfl, World.ownsRow_nil _ _ _ _, fun p hp => by cases hp⟩
theorem owT_read {l : List Th} (h : OwT w B v l) : ThsR w v l := by
 obtain ⟨ps, h1, h2, h3⟩ := h
 exact ⟨ps, h1, SeqS.of_owns h2, fun p hp => by obtain ⟨A, c, e1, h⟩ := h3 p hp; exact SeqS.of_owns h⟩
theorem owR_read {l : List Rs} (h : OwR w B v l) : RgsR w v l := by
 obtain ⟨ps, h1, h2, h3⟩ := h
 exact ⟨ps, h1, SeqS.of_owns h2, fun p hp => by
  obtain ⟨⟨A, c, e1, h⟩, A2, c2, e2, g⟩ := h3 p hp
  exact ⟨SeqS.of_owns h, SeqS.of_owns g⟩⟩
theorem own_same2 {r : Nat} {t : TypeId} {cs : Array Value} (h : w.ownsRow B e sz v n xs) (hl : Lies w r t cs) (hr : v.ownBlock = some r) : t = e := by
 rcases owns_row h with ⟨rfl, _⟩ | ⟨r', cap, cur, rfl, hb, hl2, _⟩
 ·cases hr
 ·obtain rfl : r' = r := by simpa [Value.ownBlock] using hr
  exact (hl.same hl2).1
theorem own_lies2 {r : Nat} (h : w.ownsRow B e sz v n xs) (hr : v.ownBlock = some r) : B ≤ r ∧ ∃ cur, Lies w r e cur := by
 rcases owns_row h with ⟨rfl, _⟩ | ⟨r', cap, cur, rfl, hb, hl2, _⟩
 ·cases hr
 ·obtain rfl : r' = r := by simpa [Value.ownBlock] using hr
  exact ⟨hb, cur, hl2⟩
theorem seq_one2 {g sz : Nat} {T : TypeId} {cs : List Value} (h : Lies w g T cs.toArray) (hs : cs.length = sz) : SeqS w sz (.slice (some ⟨g, 0, none⟩) 1 1) 1 cs := by
 refine ⟨by rw [hs, Nat.one_mul], _, _, rfl, Nat.le_refl _, by unfold maxLen; omega, (fun h => by cases h), fun k x hx => ⟨g, 0, rfl, ?_⟩⟩
 rw [Nat.zero_add, h.cell, ← hx, List.getElem?_toArray]
theorem own_kept_src {g R i : Nat} {s : ByteArray} {f : Bool} (h : w.ownsRow B e sz v n xs) (hs : SrcAt w g R s i f) (k : Kept (srcR g R) w w') (h1 : e ≠ 78) (h2 : e ≠ 94) : w'.ownsRow B e sz v n xs :=
 owns_kept h k (fun r cur _ hl => by
  rintro (rfl | rfl)
  ·exact h1 (hl.same hs.1).1
  ·exact h2 (hl.same hs.2.1).1)
theorem lies_kept_src {g R i b : Nat} {s : ByteArray} {f : Bool} {t : TypeId} {cs : Array Value} (h : Lies w b t cs) (hs : SrcAt w g R s i f) (k : Kept (srcR g R) w w') (h1 : t ≠ 78) (h2 : t ≠ 94) : Lies w' b t cs :=
 h.kept k (by
  rintro (rfl | rfl)
  ·exact h1 (h.same hs.1).1
  ·exact h2 (h.same hs.2.1).1)
end
theorem owns_form {w : World} {B : Nat} {e : TypeId} {sz n : Nat} {v : Value} {xs : List Value} (h : w.ownsRow B e sz v n xs) : ∃ A c, v = .slice A n c ∧ n ≤ c ∧ c ≤ 9223372036854775807 := own_form2 h
theorem own_lies {w : World} {B : Nat} {e : TypeId} {sz n : Nat} {v : Value} {xs : List Value} {r : Nat} (h : w.ownsRow B e sz v n xs) (hr : v.ownBlock = some r) : B ≤ r ∧ ∃ cur, Lies w r e cur := own_lies2 h hr
def OwnPg (w : World) (B : Nat) (A : Option Addr) (c : Nat) (Q : Option Addr) (d : Nat) (p : Pg) : Prop :=
 w.ownsRow B 102 3 (.slice A p.rs.length c) p.rs.length (rowsOf riF p.rs) ∧
 ∃ vs : List Value, w.ownsRow B 43 1 (.slice Q p.ts.length d) p.ts.length vs ∧ ∀ (i : Nat) (l : List In), p.ts[i]? = some l → ∃ A' c', vs[i]? = some (Value.slice A' l.length c') ∧ w.ownsRow B 42 6 (.slice A' l.length c') l.length (rowsOf inF l)
section
variable {w w' : World} {B c d : Nat} {A Q : Option Addr} {p : Pg}
theorem OwnPg.kept {S : Nat → Prop} (h : OwnPg w B A c Q d p) (k : Kept S w w') (hn : ∀ r e cur, (e = 102 ∨ e = 43 ∨ e = 42) → Lies w r e cur → ¬ S r) : OwnPg w' B A c Q d p := by
 obtain ⟨h1, vs, h2, h3⟩ := h
 refine ⟨owns_kept h1 k (fun r cur _ hl => hn r _ cur (.inl rfl) hl), vs, owns_kept h2 k (fun r cur _ hl => hn r _ cur (.inr (.inl rfl)) hl), fun i l hl => ?_⟩
 obtain ⟨A', c', e, ho⟩ := h3 i l hl
 exact ⟨A', c', e, owns_kept ho k (fun r cur _ hl => hn r _ cur (.inr (.inr rfl)) hl)⟩
theorem OwnPg.later (h : OwnPg w B A c Q d p) (k : Below w.heap.size w w') : OwnPg w' B A c Q d p := h.kept (Kept.of_below k) (fun _ _ _ _ _ e => e)
end
theorem ownPg_mono {w : World} {B B' c d : Nat} {A Q : Option Addr} {p : Pg} (h : OwnPg w B A c Q d p) (hB : B' ≤ B) : OwnPg w B' A c Q d p := by
 obtain ⟨h1, vs, h2, h3⟩ := h
 refine ⟨owns_mono h1 hB, vs, owns_mono h2 hB, fun i l hl => ?_⟩
 obtain ⟨A', c', e, ho⟩ := h3 i l hl
 exact ⟨A', c', e, owns_mono ho hB⟩
theorem infoThN : (Try.prog.info? 43).map (fun i => (i.zero, i.size, i.bytes)) = some (some (.slice none 0 0), 1, 24) := by kernel_rfl
def InnI (q : World) (B : Nat) (l : List In) (u : Value) : Prop := ∃ A' c', u = Value.slice A' l.length c' ∧ q.ownsRow B 42 6 u l.length (rowsOf inF l)
theorem innI_own {q : World} {B B' : Nat} {l : List In} {u : Value} (h : q.ownsRow B 42 6 u l.length (rowsOf inF l)) (hB : B' ≤ B) : InnI q B' l u := by
 obtain ⟨A, c, e, _⟩ := owns_form h
 exact ⟨A, c, e, owns_mono h hB⟩
theorem InnI.kept {S : Nat → Prop} {q q' : World} {B : Nat} {l : List In} {u : Value} (h : InnI q B l u) (k : Kept S q q') (hS : ∀ r cur, Lies q r 42 cur → ¬ S r) : InnI q' B l u := by
 obtain ⟨A, c, e, h⟩ := h
 exact ⟨A, c, e, owns_kept h k (fun r cur _ hl => hS r cur hl)⟩
theorem own_same {w : World} {B n sz : Nat} {e T : TypeId} {v : Value} {xs : List Value} {k : Nat} {cur : Array Value} (h : w.ownsRow B e sz v n xs) (hl : Lies w k T cur) (hv : v.ownBlock = some k) : T = e := by
 obtain ⟨_, cur', h2⟩ := own_lies h hv
 exact (hl.same h2).1
structure CoS (w : World) (cs : Array Value) (vr : Value) (p : Pg) (vs : List Value) (n3 : Nat) (q : World) : Prop where
 bel : Below w.heap.size w q
 box : Lies q w.heap.size 47 cs
 res : Lies q (w.heap.size + 1) 47 #[.slice none 0 0, .slice none 0 0]
 rr : q.ownsRow w.heap.size 102 3 vr p.rs.length (rowsOf riF p.rs)
 inn : ∀ (j : Nat) (u : Value), vs[j]? = some u → ∃ l, p.ts[j]? = some l ∧ InnI q w.heap.size l u
 n3 : w.heap.size + 1 < n3 ∧ n3 < q.heap.size
theorem CoS.kept {S : Nat → Prop} {w q q' : World} {cs : Array Value} {vr : Value} {p : Pg} {vs : List Value} {n3 : Nat} (h : CoS w cs vr p vs n3 q) (k : Kept S q q') (hl : ∀ r, r < w.heap.size → ¬ S r) (h3 : ∀ r e cur, Lies q r e cur → e ≠ 43 → r ≠ n3 → ¬ S r) (hn : ∀ r e cur, Lies q r e cur → (e = 102 ∨ e = 42) → r ≠ n3) : CoS w cs vr p vs n3 q' := by
 have := h.n3.1
 refine ⟨h.bel.trans (k.below h.bel.size hl), h.box.kept k (h3 _ _ _ h.box (by decide) (by omega)), h.res.kept k (h3 _ _ _ h.res (by decide) (by omega)), owns_kept h.rr k (fun r cur _ hl2 => h3 r _ cur hl2 (by decide) (hn r _ cur hl2 (.inl rfl))), fun j u hu => ?_, h.n3.1, Nat.lt_of_lt_of_le h.n3.2 k.size⟩
 obtain ⟨l, h1, h2⟩ := h.inn j u hu
 exact ⟨l, h1, h2.kept k (fun r cur hl2 => h3 r _ cur hl2 (by decide) (hn r _ cur hl2 (.inr rfl)))⟩
def ManyP (w : World) (p : Pg) (q : Ending) (w' : World) : Prop := ∃ A c Q d, q = .returned (.agg #[.slice A p.rs.length c, .slice Q p.ts.length d]) ∧ OwnPg w' w.heap.size A c Q d p ∧ Below w.heap.size w w'
set_option maxHeartbeats 8000000 in
set_option maxRecDepth 100000 in
theorem fbCopy (p : Pg) (A : Option Addr) (c : Nat) (B : Option Addr) (d : Nat) (w : World) (h : PgAt w A c B d p) (hr : p.rs.length ≤ 1000) (ht : p.ts.length ≤ 1000) (hl : ∀ l ∈ p.ts, l.length ≤ 1000000) :
  Calls Try.prog 48 #[.agg #[.slice A p.rs.length c, .slice B p.ts.length d]] w (ManyP w p) := by
 obtain ⟨hc1, hc2⟩ := seq_form h.1
 obtain ⟨hd1, hd2⟩ := h.2.form
 have hb0 : Below w.heap.size w ((w.alloc (.cells #[.slice A p.rs.length c, .slice B p.ts.length d] 47)).alloc (.cells #[.slice none 0 0, .slice none 0 0] 47)) := ((Below.refl _ _).alloc (Nat.le_refl _) _).alloc (by simp) _
 have l0 := (Lies.made w 47 #[.slice A p.rs.length c, .slice B p.ts.length d]).alloc (.cells #[.slice none 0 0, .slice none 0 0] 47)
 have l1 := Lies.made (w.alloc (.cells #[.slice A p.rs.length c, .slice B p.ts.length d] 47)) 47 #[.slice none 0 0, .slice none 0 0]
 rw [World.size_alloc] at l1
 have HH := Lib.hid h
 have HLEN := Lib.hid hl
 have HB0 := Lib.hid hb0
 have HL0 := Lib.hid l0
 have HL1 := Lib.hid l1
 clear h hl hb0 l0 l1
 go_enter Try.func48, Try.ntmps48
 go_upto_region 1 with (fail)
 generalize (w.alloc (.cells #[.slice A p.rs.length c, .slice B p.ts.length d] 47)).alloc (.cells #[.slice none 0 0, .slice none 0 0] 47) = w1 at *
 have c0 := (HL0.out.cell 0).trans (show _ = some (Value.slice A p.rs.length c) from rfl)
 have hlt0 := HL0.out.lt
 have HCL := Lib.hid (cloneRi p.rs A c w1 (HH.out.1.later HB0.out) (by omega))
 go_wp2_with fail
 refine HCL.out.mono ?_
 rintro q w2 ⟨v2, rfl, ho2, hb2⟩
 obtain ⟨Ar, cr, rfl, _⟩ := owns_form ho2
 have HB2 := Lib.hid (HB0.out.trans (hb2.mono HB0.out.size))
 have HL0a := Lib.hid (HL0.out.below hb2 HL0.out.lt)
 have HL1a := Lib.hid (HL1.out.below hb2 HL1.out.lt)
 have HO2 := Lib.hid (owns_mono ho2 HB0.out.size)
 have hw12 := hb2.size
 have hl1t := HL1.out.lt
 clear ho2 hb2 c0 hlt0 HB0 HL0 HL1 HCL
 have HN3 := Lib.hid (Lies.made w2 47 #[.slice Ar p.rs.length cr, .slice none 0 0])
 have HI : Hid (CoS w #[.slice A p.rs.length c, .slice B p.ts.length d] (.slice Ar p.rs.length cr) p [] w2.heap.size (w2.alloc (.cells #[.slice Ar p.rs.length cr, .slice none 0 0] 47))) :=
  ⟨HB2.out.alloc HB2.out.size _, HL0a.out.alloc _, HL1a.out.alloc _, owned_below HO2.out ((Below.refl _ _).alloc (Nat.le_refl _) _), (fun j u hu => by cases hu), by rw [World.size_alloc]; omega⟩
 clear HB2 HL0a HL1a HO2 hw12 hl1t
 go_upto_region 2 with (fail)
 generalize w2.alloc (.cells #[.slice Ar p.rs.length cr, .slice none 0 0] 47) = w3 at *
 generalize w2.heap.size = n3 at *
 have c1 := (HI.out.box.cell 1).trans (show _ = some (Value.slice B p.ts.length d) from rfl)
 have hlc := HI.out.box.lt
 go_wp2_with fail
 clear c1 hlc
 go_loopw [13] (fun u wr => ∃ (i : Nat) (vt : Value) (vs : List Value), i ≤ p.ts.length ∧ u = .int .i64 i ∧ Hid (CoS w #[.slice A p.rs.length c, .slice B p.ts.length d] (.slice Ar p.rs.length cr) p vs n3 wr) ∧ Hid (Lies wr n3 47 #[.slice Ar p.rs.length cr, vt]) ∧ Hid (wr.ownsRow w.heap.size 43 1 vt i vs)) (fun u _ => p.ts.length - (intOf u).toNat)
 case atStart => exact ⟨0, .slice none 0 0, [], by omega, rfl, HI, HN3, World.ownsRow_nil _ _ _ _⟩
 case round =>
  clear HN3 HI
  obtain ⟨i, vt, vs, hi, rfl, hS, hn, hv⟩ := hrel
  by_cases hlt : i < p.ts.length
  ·have hii : (i : Int) < (p.ts.length : Int) := by omega
   obtain ⟨l, hl⟩ : ∃ l, p.ts[i]? = some l := ⟨_, List.getElem?_eq_getElem hlt⟩
   obtain ⟨b, off, B2, d2, rfl, g0, hil⟩ := HH.out.2.at_ hl
   have hbl := World.block_lt_of_cell? w _ g0
   have hll := HLEN.out l (List.mem_of_getElem? hl)
   have G0 := (hS.out.bel.cell hbl).trans g0
   have HIL := Lib.hid hil
   have HLL := Lib.hid hl
   have HVL : Hid (vs.length = i) := by have := hv.out.1; show _ = _; omega
   have hS0 := Lib.hid hS.out.bel
   have hSC := Lib.hid hS.out
   have hbw := Nat.lt_of_lt_of_le hbl hS.out.bel.size
   clear g0 hil hl
   go_wp2_with fail
   clear G0
   refine wp_region_relyx (PuS wr vt n3 1 5 7 [0, 1, 2, 3, 4, 5] [3, 4] (fun v q => ∃ u, InnI q w.heap.size l u ∧ q.ownsRow w.heap.size 43 1 v (i + 1) (vs ++ [u]))) (bfV [.eq (.pointer (some ⟨n3, 1, none⟩)), .eq vt, .eq (.slice B2 l.length d2), .own wr.heap.size 42 6 l.length (rowsOf inF l), .of (fun v q => ∃ g u, v = Value.slice (some ⟨g, 0, none⟩) 1 1 ∧ Lies q g 43 #[u] ∧ q.ownsRow wr.heap.size 42 6 u l.length (rowsOf inF l)) (fun _ _ _ hb ⟨g, u, e, h1, h2⟩ => ⟨g, u, e, h1.below hb h1.lt, owned_below h2 hb⟩), .any, .eq (.pointer (some ⟨n3, 1, none⟩)), .any]) [some 17, some 18, some 19, some 20, some 21, some 22, some 23, none] [[], [0], [], [2], [3], [1, 4], [], [6, 5]] [[], [0], [], [2], [2, 3], [0, 1, 2, 3, 4], [0, 1, 2, 3, 4], [0, 1, 2, 3, 4, 6]] [[2, 3, 4, 5], [2, 3, 4], [0, 1, 4, 5], [0, 1], [0, 1], [], [5], [5]] [0, 1, 2, 3, 4, 5, 6, 7] 8 (by kernel_rfl) (by kernel_rfl) (by kernel_rfl) (by kernel_rfl) ?rS (fun j h1 h2 => absurd (Nat.lt_of_lt_of_le h1 (Nat.le_trans (by decide) h2)) (Nat.lt_irrefl _)) ?rT ?rE
   case rS => exact pu_start
   case rT =>
    refine RelyStepsX.cons (RelyStepX.mk [] [2, 3, 4, 5] rfl rfl rfl (fun xv Lv wS hS hL hLd hV bq hb K hK => ?_)) ?_
    ·clear hV
     simp only [putsOf, List.foldl_cons, List.foldl_nil, List.getD_cons_zero, List.getD_cons_succ, List.getD_nil, cond_true, cond_false, Act.put, List.setIfInBounds_toArray, List.set_cons_zero, List.set_cons_succ] at hb
     subst hb
     rw [if_pos (by rfl)]
     go_wp2_with fail
     exact hK.out _ _ ⟨_, rfl, pu_op (i := 0) rfl hS, rfl, AllPX.same _⟩
    refine RelyStepsX.cons (RelyStepX.mk [0] [2, 3, 4] rfl rfl rfl (fun xv Lv wS hS hL hLd hV bq hb K hK => ?_)) ?_
    ·obtain ⟨h0, _⟩ := hV
     have h0 : xv 0 = _ := h0
     simp only [putsOf, List.foldl_cons, List.foldl_nil, List.getD_cons_zero, List.getD_cons_succ, List.getD_nil, cond_true, cond_false, Act.put, List.setIfInBounds_toArray, List.set_cons_zero, List.set_cons_succ, h0] at hb
     clear h0
     subst hb
     rw [if_pos (by rfl)]
     (have k1 := hn.out.kept (pu_at hS hL (by decide)) (own_ne hv.out hn.out (by decide)); have c1 := (k1.cell 1).trans (show _ = some vt from rfl); have c2 := k1.lt; clear k1)
     go_wp2_with fail
     exact hK.out _ _ ⟨_, rfl, pu_op (i := 1) rfl hS, rfl, AllPX.same _⟩
    refine RelyStepsX.cons (RelyStepX.mk [] [0, 1, 4, 5] rfl rfl rfl (fun xv Lv wS hS hL hLd hV bq hb K hK => ?_)) ?_
    ·clear hV
     simp only [putsOf, List.foldl_cons, List.foldl_nil, List.getD_cons_zero, List.getD_cons_succ, List.getD_nil, cond_true, cond_false, Act.put, List.setIfInBounds_toArray, List.set_cons_zero, List.set_cons_succ] at hb
     subst hb
     rw [if_pos (by rfl)]
     go_wp2_with fail
     exact hK.out _ _ ⟨_, rfl, pu_op (i := 2) rfl hS, rfl, AllPX.same _⟩
    refine RelyStepsX.cons (RelyStepX.mk [2] [0, 1] rfl rfl rfl (fun xv Lv wS hS hL hLd hV bq hb K hK => ?_)) ?_
    ·obtain ⟨h2, _⟩ := hV
     have h2 : xv 2 = _ := h2
     simp only [putsOf, List.foldl_cons, List.foldl_nil, List.getD_cons_zero, List.getD_cons_succ, List.getD_nil, cond_true, cond_false, Act.put, List.setIfInBounds_toArray, List.set_cons_zero, List.set_cons_succ, h2] at hb
     clear h2
     subst hb
     rw [if_pos (by rfl)]
     have hb9 := pu_bel hS (pu_not hS (i := 3) rfl hL) (by decide)
     have HSS := Lib.hid hS
     have HCI := Lib.hid (cloneIn l B2 d2 wS (HIL.out.later (hS0.out.trans (hb9.mono hS0.out.size))) hll)
     clear hS
     go_wp2_with fail
     refine HCI.out.mono ?_
     rintro q w' ⟨u, rfl, ho, hb⟩
     exact hK.out _ _ ⟨_, rfl, pu_more rfl HSS.out hb, owns_mono ho hb9.size, AllPX.of _ (fun j _ _ h => bfV_below hb h)⟩
    refine RelyStepsX.cons (RelyStepX.mk [3] [0, 1] rfl rfl rfl (fun xv Lv wS hS hL hLd hV bq hb K hK => ?_)) ?_
    ·obtain ⟨h3, _⟩ := hV
     simp only [putsOf, List.foldl_cons, List.foldl_nil, List.getD_cons_zero, List.getD_cons_succ, List.getD_nil, cond_true, cond_false, Act.put, List.setIfInBounds_toArray, List.set_cons_zero, List.set_cons_succ] at hb
     generalize hy3 : xv 3 = y3 at *
     subst hb
     rw [if_pos (by rfl)]
     have HSS := Lib.hid hS
     have ho3 : wS.ownsRow wr.heap.size 42 6 y3 l.length (rowsOf inF l) := h3
     obtain ⟨A8, c8, rfl, _⟩ := owns_form ho3
     have H8 := Lib.hid ho3
     clear hS h3 ho3
     go_wp2_with fail
     have hb : Below wS.heap.size wS (wS.alloc (.cells #[.slice A8 l.length c8] 43)) := (Below.refl _ _).alloc (Nat.le_refl _) _
     exact hK.out _ _ ⟨_, rfl, pu_more rfl HSS.out hb, ⟨wS.heap.size, _, rfl, Lies.made _ _ _, owned_below H8.out hb⟩, AllPX.of _ (fun j _ _ h => bfV_below hb h)⟩
    refine RelyStepsX.cons (RelyStepX.mk [1, 4] [] rfl rfl rfl (fun xv Lv wS hS hL hLd hV bq hb K hK => ?_)) ?_
    ·obtain ⟨h1, h4, _⟩ := hV
     have h1 : xv 1 = _ := h1
     simp only [putsOf, List.foldl_cons, List.foldl_nil, List.getD_cons_zero, List.getD_cons_succ, List.getD_nil, cond_true, cond_false, Act.put, List.setIfInBounds_toArray, List.set_cons_zero, List.set_cons_succ, h1] at hb
     clear h1
     generalize hy4 : xv 4 = y4 at *
     subst hb
     rw [if_pos (by rfl)]
     have hb9 := pu_bel hS hL (by decide)
     have HSS := Lib.hid hS
     obtain ⟨g, u, rfl, hl9, hu9⟩ := h4
     clear hS
     refine step_list (ops := #[]) (by rfl) (append_argS wS 1 rfl (.tmp 18) (.tmp 21) 44 rfl w.heap.size 43 _ 24 Try.underlying44 infoThN rfl (by decide) vt i vs rfl (owned_below hv.out hb9) (some ⟨g, 0, none⟩) 1 1 rfl [u] ⟨rfl, _, _, rfl, Nat.le_refl _, by unfold maxLen; omega, (fun h => by cases h), fun k x hx => ⟨g, 0, rfl, by rw [Nat.zero_add, hl9.cell]; rw [← hx]; simp⟩⟩ (by intro q hq; simp at hq; subst hq; obtain ⟨A8, c8, rfl, _⟩ := owns_form hu9; rfl) (by unfold maxLen; omega) (by omega) (Nat.le_trans hS0.out.size hb9.size) ?_)
     intro v' w' ho hb hgr
     have hk := Kept.of_grown hgr
     exact hK.out _ _ ⟨_, rfl, pu_app rfl HSS.out hk ⟨u, innI_own (owns_kept hu9 hk (fun r cur _ hl3 hs => own_ne (owned_below hv.out hb9) hl3 (by decide) hs)) hS0.out.size, ho⟩ (fun j hj => hLd j (by revert hj; revert j; decide +kernel)), trivial, AllPX.of _ (fun j hj _ h => bfV_lit (by rfl) hj h)⟩
    refine RelyStepsX.cons (RelyStepX.mk [] [5] rfl rfl rfl (fun xv Lv wS hS hL hLd hV bq hb K hK => ?_)) ?_
    ·clear hV
     simp only [putsOf, List.foldl_cons, List.foldl_nil, List.getD_cons_zero, List.getD_cons_succ, List.getD_nil, cond_true, cond_false, Act.put, List.setIfInBounds_toArray, List.set_cons_zero, List.set_cons_succ] at hb
     subst hb
     rw [if_pos (by rfl)]
     go_wp2_with fail
     exact hK.out _ _ ⟨_, rfl, pu_op (i := 6) rfl hS, rfl, AllPX.same _⟩
    refine RelyStepsX.cons (RelyStepX.mk [6, 5] [5] rfl rfl rfl (fun xv Lv wS hS hL hLd hV bq hb K hK => ?_)) ?_
    ·obtain ⟨h6, h5, _⟩ := hV
     have h6 : xv 6 = _ := h6
     simp only [putsOf, List.foldl_cons, List.foldl_nil, List.getD_cons_zero, List.getD_cons_succ, List.getD_nil, cond_true, cond_false, Act.put, List.setIfInBounds_toArray, List.set_cons_zero, List.set_cons_succ, h6] at hb
     clear h6
     generalize hy5 : xv 5 = y5 at *
     subst hb
     rw [if_pos (by rfl)]
     obtain ⟨k1, u, hu, ho⟩ := pu_st hS hL (hLd 5 (by decide +kernel))
     have hl3 := hn.out.kept k1 (own_ne hv.out hn.out (by decide))
     have q1 := (hl3.cell 1).trans (show _ = some vt from rfl)
     have f1 := hl3.free 1
     have qt := hl3.lt
     rw [hy5] at ho
     obtain ⟨A8, c8, rfl, _⟩ := owns_form ho
     have HSS := Lib.hid hS
     clear hS ho hu k1 hl3
     go_wp2_with fail
     refine hK.out _ _ ⟨undef, rfl, ?_, trivial, AllPX.of _ (fun j hj _ h => bfV_lit (by rfl) hj h)⟩
     have := pu_store (v := undef) rfl HSS.out (fun j hj => hLd j (by revert hj; revert j; decide +kernel))
     rwa [hy5] at this
    exact RelyStepsX.nil
   case rE =>
    intro xv Lv wE hS hLall hV
    have h5 := hV 5 (by decide) (by decide)
    have h7 := hV 7 (by decide) (by decide)
    clear hV
    obtain ⟨q1, e1, k1, u, hu, ho⟩ := pu_end hS (hLall 5 (by decide +kernel)) (hLall 7 (by decide +kernel))
    simp only [putsOf, List.foldl_cons, List.foldl_nil, List.getD_cons_zero, List.getD_cons_succ, List.getD_nil, cond_true, cond_false, Act.put, List.setIfInBounds_toArray, List.set_cons_zero, List.set_cons_succ]
    generalize xv 0 = y0 at *
    generalize xv 1 = y1 at *
    generalize xv 2 = y2 at *
    generalize xv 3 = y3 at *
    generalize xv 4 = y4 at *
    generalize xv 5 = y5 at *
    generalize xv 6 = y6 at *
    generalize xv 7 = y7 at *
    have hl1 := hn.out.kept k1 (own_ne hv.out hn.out (by decide))
    have hB1 : ∀ k, vt.ownBlock = some k → w.heap.size ≤ k := fun k e => (own_lies (w := wr) hv.out e).1
    have hs1 := hS0.out.size
    have hc1 : CoS w #[.slice A p.rs.length c, .slice (some ⟨b, off, none⟩) p.ts.length d] (.slice Ar p.rs.length cr) p vs n3 q1 :=
     hSC.out.kept k1 (fun r hr e => by have := hB1 r e; omega) (fun r e cur h1 h2 _ e3 => h2 (own_same hv.out h1 e3)) (fun r e cur h1 h2 e3 => by subst e3; rcases h2 with rfl | rfl <;> exact absurd (h1.same hn.out).1 (by decide))
    have hl2 := hl1.put 1 y5
    have k2 := Kept.put q1 n3 1 y5
    have hc2 := hc1.kept k2 (fun r hr (e : r = n3) => by have := hc1.n3.1; omega) (fun r e cur _ _ h3 h4 => h3 h4) (fun r e cur h1 h2 e3 => by subst e3; rcases h2 with rfl | rfl <;> exact absurd (h1.same hl1).1 (by decide))
    have ho2 := owns_put ho hl1 (by decide) 1 y5
    have hu2 := hu.kept k2 (fun r cur h1 (e3 : r = n3) => by subst e3; exact absurd (h1.same hl1).1 (by decide))
    rw [← e1] at hl2 hc2 ho2 hu2
    have HN2 : Hid (Lies wE n3 47 #[.slice Ar p.rs.length cr, y5]) := hl2
    have HV2 := Lib.hid ho2
    have HS2 : Hid (CoS w #[.slice A p.rs.length c, .slice (some ⟨b, off, none⟩) p.ts.length d] (.slice Ar p.rs.length cr) p (vs ++ [u]) n3 wE) := by
     refine ⟨hc2.bel, hc2.box, hc2.res, hc2.rr, fun j y hy => ?_, hc2.n3⟩
     by_cases hj : j < vs.length
     ·rw [List.getElem?_append_left hj] at hy; exact hc2.inn j y hy
     ·rw [List.getElem?_append_right (by omega)] at hy
      have := (List.getElem?_eq_some_iff.1 hy).1
      simp only [List.length_singleton] at this
      rw [show j - vs.length = 0 by omega] at hy
      simp only [List.getElem?_cons_zero, Option.some.injEq] at hy
      subst hy
      have hv0 := HVL.out
      exact ⟨l, by rw [show j = i by omega]; exact HLL.out, hu2⟩
    clear hS hl1 hB1 hs1 hc1 hl2 k2 hc2 ho2 hu2 k1 ho hu e1 hn hv hLall
    go_wp2
    go_roundw
    case rel => exact ⟨i + 1, _, vs ++ [u], by omega, by go_num, HS2, HN2, HV2⟩
    case measure => simp [intOf]; omega
  ·obtain rfl : i = p.ts.length := by omega
   obtain ⟨At, ct, rfl, _⟩ := owns_form hv.out
   have n0 := (hn.out.cell 0).trans (show _ = some (Value.slice Ar p.rs.length cr) from rfl)
   have n1 := (hn.out.cell 1).trans (show _ = some (Value.slice At p.ts.length ct) from rfl)
   have nlt := hn.out.lt
   have rf0 := hS.out.res.free 0
   have rf1 := hS.out.res.free 1
   have rlt := hS.out.res.lt
   have r0 := (hS.out.res.cell 0).trans (show _ = some (Value.slice none 0 0) from rfl)
   have r1 := (hS.out.res.cell 1).trans (show _ = some (Value.slice none 0 0) from rfl)
   have HK := Lib.hid ((Kept.put wr (w.heap.size + 1) 0 (.slice Ar p.rs.length cr)).trans (Kept.put _ (w.heap.size + 1) 1 (.slice At p.ts.length ct)) (fun _ _ h => h))
   have HR := Lib.hid ((hS.out.res.put 0 (.slice Ar p.rs.length cr)).put 1 (.slice At p.ts.length ct))
   have q0 := (HR.out.cell 0).trans (show _ = some (Value.slice Ar p.rs.length cr) from rfl)
   have q1 := (HR.out.cell 1).trans (show _ = some (Value.slice At p.ts.length ct) from rfl)
   have HQ0 := Lib.hid q0
   have HQ1 := Lib.hid q1
   clear q0 q1
   go_wp2
   refine bodyPost_ret (v := .agg #[.slice Ar p.rs.length cr, .slice At p.ts.length ct]) (by simp [results, Try.results48, go_sem, HQ0.out, HQ1.out]) rfl ?_
   have ne : ∀ r e cur, Lies wr r e cur → e ≠ 47 → ¬ oneRow (w.heap.size + 1) r := fun r e cur h1 h2 (h3 : r = w.heap.size + 1) => by subst h3; exact h2 (h1.same hS.out.res).1
   refine ⟨_, _, _, _, rfl, ⟨owns_kept hS.out.rr HK.out (fun r cur _ hl3 => ne r _ cur hl3 (by decide)), vs, owns_kept hv.out HK.out (fun r cur _ hl3 => ne r _ cur hl3 (by decide)), fun i l hl => ?_⟩, hS.out.bel.trans (HK.out.below hS.out.bel.size (fun k hk (e : k = w.heap.size + 1) => by omega))⟩
   have hvl : vs.length = p.ts.length := by have := hv.out.1; omega
   have hil := (List.getElem?_eq_some_iff.1 hl).1
   obtain ⟨l', h1, h2⟩ := hS.out.inn i _ (List.getElem?_eq_getElem (by rw [hvl]; exact hil))
   rw [hl] at h1
   cases h1
   obtain ⟨A', c', e', h3⟩ := h2.kept HK.out (fun r cur hl3 => ne r _ cur hl3 (by decide))
   exact ⟨A', c', by rw [List.getElem?_eq_getElem (by rw [hvl]; exact hil), e'], by rw [← e']; exact h3⟩
def rgSpB (r : Ri) : Bool := decide (1 ≤ r.c ∧ r.c ≤ 64 ∧ (r.k = 1 ∧ r.r = 1 ∨ r.k = 2 ∧ 1 ≤ r.r ∧ r.r ≤ 8))
def instrE (rs : List Ri) (n : Nat) (x : In) : Nat :=
 if rightB x = false then 6 else if jumpsB x.op = true ∧ n < x.k then 5 else if onRingB x.op = false then 0 else if (rs.length : Int) ≤ x.c then 7 else if x.op = 19 ∧ (rs.getD x.c.toNat default).r ≤ (x.k : Int) then 7 else 0
theorem onRing_any (x : In) (w : World) : Calls Try.prog 87 #[.agg (inC x)] w fun e w' => e = .returned (.bool (onRingB x.op)) ∧ Below w.heap.size w w' := by
 unfold onRingB
 have hb : Below w.heap.size w (w.alloc (.cells (inC x) 42)) := (Below.refl _ _).alloc (Nat.le_refl _) _
 obtain ⟨b1, h1⟩ : ∃ b, (x.op == 18) = b := ⟨_, rfl⟩
 obtain ⟨b2, h2⟩ : ∃ b, (x.op == 19) = b := ⟨_, rfl⟩
 obtain ⟨b3, h3⟩ : ∃ b, (x.op == 20) = b := ⟨_, rfl⟩
 cases b1
 ·cases b2
  ·go_enter Try.func87, Try.ntmps87
   go_wp2
   go_ret
   exact ⟨ret_bool (by simp [h1, h2, h3]), hb⟩
  ·go_enter Try.func87, Try.ntmps87
   go_wp2
   go_ret
   exact ⟨ret_bool (by simp [h1, h2, h3]), hb⟩
 ·go_enter Try.func87, Try.ntmps87
  go_wp2
  go_ret
  exact ⟨ret_bool (by simp [h1, h2, h3]), hb⟩
theorem rightRing_any (x : Ri) (w : World) : Calls Try.prog 74 #[.agg (riC x)] w fun e w' => e = .returned (.bool (rgSpB x)) ∧ Below w.heap.size w w' := by
 have hb : Below w.heap.size w (w.alloc (.cells (riC x) 102)) := (Below.refl _ _).alloc (Nat.le_refl _) _
 have hr : rgSpB x = decide (1 ≤ x.c ∧ x.c ≤ 64 ∧ (x.k = 1 ∧ x.r = 1 ∨ x.k = 2 ∧ 1 ≤ x.r ∧ x.r ≤ 8)) := rfl
 have HR := Lib.hid hr
 clear hr
 by_cases h1 : x.c < 1
 ·have HF := Lib.hid (show rgSpB x = false from decide_eq_false (by omega))
  have e1 : decide (x.c < 1) = true := by simpa using h1
  clear HR
  go_enter Try.func74, Try.ntmps74
  go_wp2
  go_ret
  exact ⟨ret_bool (by rw [HF.out]), hb⟩
 have e1 : decide (x.c < 1) = false := by simpa using h1
 by_cases h2 : 64 < x.c
 ·have HF := Lib.hid (show rgSpB x = false from decide_eq_false (by omega))
  have e2 : decide (64 < x.c) = true := by simpa using h2
  clear HR
  go_enter Try.func74, Try.ntmps74
  go_wp2
  go_ret
  exact ⟨ret_bool (by rw [HF.out]), hb⟩
 have e2 : decide (64 < x.c) = false := by simpa using h2
 by_cases h3 : x.k = 1
 ·have HF := Lib.hid (show rgSpB x = (x.r == 1) by rw [HR.out, Bool.eq_iff_iff, decide_eq_true_eq, beq_iff_eq]; omega)
  have e3 : (x.k == 1) = true := by simpa using h3
  clear HR h3
  go_enter Try.func74, Try.ntmps74
  go_wp2
  go_ret
  exact ⟨ret_bool (by rw [HF.out]), hb⟩
 have e3 : (x.k == 1) = false := by simpa using h3
 by_cases h4 : x.k = 2
 ·have HF := Lib.hid (show rgSpB x = (decide (1 ≤ x.r) && decide (x.r ≤ 8)) by rw [HR.out, Bool.eq_iff_iff, decide_eq_true_eq, Bool.and_eq_true, decide_eq_true_eq, decide_eq_true_eq]; omega)
  have e4 : (x.k == 2) = true := by simpa using h4
  clear HR h3 h4
  by_cases h5 : (1 : Int) ≤ x.r
  ·have e5 : decide ((1 : Int) ≤ x.r) = true := by simpa using h5
   go_enter Try.func74, Try.ntmps74
   go_wp2
   go_ret
   exact ⟨ret_bool (by rw [HF.out]; simp [h5]), hb⟩
  ·have e5 : decide ((1 : Int) ≤ x.r) = false := by simpa using h5
   go_enter Try.func74, Try.ntmps74
   go_wp2
   go_ret
   exact ⟨ret_bool (by rw [HF.out]; simp; omega), hb⟩
 have e4 : (x.k == 2) = false := by simpa using h4
 have HF := Lib.hid (show rgSpB x = false from decide_eq_false (by omega))
 clear HR h3 h4
 go_enter Try.func74, Try.ntmps74
 go_wp2
 go_ret
 exact ⟨ret_bool (by rw [HF.out]), hb⟩
theorem right_ring {x : In} (h : rightB x = true) (h2 : onRingB x.op = true) : 0 ≤ x.c ∧ x.c ≤ 7 := by
 unfold onRingB at h2
 simp only [Bool.or_eq_true, beq_iff_eq] at h2
 unfold rightB at h
 simp only [Bool.and_eq_true] at h
 have h3 := h.2.2.2.1
 unfold wB at h3
 simp only [Bool.and_eq_true, decide_eq_true_eq] at h3
 rcases h2 with e | e | e <;> (rw [e] at h3; exact h3)
set_option maxHeartbeats 8000000 in
set_option maxRecDepth 100000 in
theorem instr_any (rs : List Ri) (A : Option Addr) (c n : Nat) (x : In) (w : World) (h : RisAt w A c rs) (hok : ∀ r ∈ rs, rgSpB r = true) (hn : n ≤ 1000000) (hk : x.k ≤ 18446744073709551615) :
  Calls Try.prog 75 #[.slice A rs.length c, .int .i64 (n : Int), .agg (inC x)] w fun e w' => e = .returned (.int .i64 (instrE rs n x : Nat)) ∧ Below w.heap.size w w' := by
 obtain ⟨hc1, hc2⟩ := seq_form h
 have hb0 : Below w.heap.size w (w.alloc (.cells (inC x) 42)) := (Below.refl _ _).alloc (Nat.le_refl _) _
 have l0 := Lies.made w 42 (inC x)
 have HH := Lib.hid h
 have HO := Lib.hid hok
 have HB0 := Lib.hid hb0
 have HL0 := Lib.hid l0
 have HE : Hid (instrE rs n x = _) := show instrE rs n x = _ by unfold instrE; rfl
 have HR := Lib.hid (fun w => right_any x w)
 have HJ := Lib.hid (fun w => jumps_any x w)
 have HN := Lib.hid (fun w => onRing_any x w)
 obtain ⟨rb, hrb⟩ : ∃ b, rightB x = b := ⟨_, rfl⟩
 obtain ⟨jb, hjb⟩ : ∃ b, jumpsB x.op = b := ⟨_, rfl⟩
 obtain ⟨nb, hnb⟩ : ∃ b, onRingB x.op = b := ⟨_, rfl⟩
 have HC := Lib.hid (fun h1 h2 => @right_ring x h1 h2)
 rw [hrb] at HR HE HC
 rw [hjb] at HJ HE
 rw [hnb] at HN HE HC
 clear h hok hb0 l0 hrb hjb hnb
 go_enter Try.func75, Try.ntmps75
 go_wp2_with fail
 generalize w.alloc (.cells (inC x) 42) = w1 at *
 refine (HR.out _).mono ?_
 rintro e w2 ⟨rfl, hb2⟩
 replace HL0 := Lib.hid (HL0.out.below hb2 HL0.out.lt)
 replace HB0 := Lib.hid (HB0.out.trans ((hb2).mono HB0.out.size))
 clear hb2
 have x0 := (HL0.out.cell 0).trans (show _ = some (Value.int .i64 x.op) from rfl)
 have x1 := (HL0.out.cell 1).trans (show _ = some (Value.int .i64 x.a) from rfl)
 have x2 := (HL0.out.cell 2).trans (show _ = some (Value.int .i64 x.b) from rfl)
 have x3 := (HL0.out.cell 3).trans (show _ = some (Value.int .i64 x.c) from rfl)
 have x4 := (HL0.out.cell 4).trans (show _ = some (Value.int .i64 x.d) from rfl)
 have x5 := (HL0.out.cell 5).trans (show _ = some (Value.int .u64 (x.k : Int)) from rfl)
 have hx := HL0.out.lt
 cases rb
 ·have HE : Hid (instrE rs n x = 6) := HE.out.trans (if_pos rfl)
  go_wp2
  go_ret
  exact ⟨ret_int (by rw [HE.out]; rfl), HB0.out⟩
 have HE := Lib.hid (HE.out.trans (if_neg (by decide)))
 go_wp2_with fail
 refine (HJ.out _).mono ?_
 rintro e w3 ⟨rfl, hb3⟩
 clear x0 x1 x2 x3 x4 x5 hx
 replace HL0 := Lib.hid (HL0.out.below hb3 HL0.out.lt)
 replace HB0 := Lib.hid (HB0.out.trans ((hb3).mono HB0.out.size))
 clear hb3
 have x0 := (HL0.out.cell 0).trans (show _ = some (Value.int .i64 x.op) from rfl)
 have x1 := (HL0.out.cell 1).trans (show _ = some (Value.int .i64 x.a) from rfl)
 have x2 := (HL0.out.cell 2).trans (show _ = some (Value.int .i64 x.b) from rfl)
 have x3 := (HL0.out.cell 3).trans (show _ = some (Value.int .i64 x.c) from rfl)
 have x4 := (HL0.out.cell 4).trans (show _ = some (Value.int .i64 x.d) from rfl)
 have x5 := (HL0.out.cell 5).trans (show _ = some (Value.int .u64 (x.k : Int)) from rfl)
 have hx := HL0.out.lt
 by_cases hj : jb = true ∧ n < x.k
 ·have HE5 : Hid (instrE rs n x = 5) := HE.out.trans (if_pos hj)
  clear HE
  obtain ⟨rfl, hj⟩ := hj
  have e1 : decide ((n : Int) < (x.k : Int)) = true := by simp; omega
  have e2 : decide (n < x.k) = true := by simpa using hj
  go_wp2
  go_ret
  exact ⟨ret_int (by rw [HE5.out]; rfl), HB0.out⟩
 have HEJ := Lib.hid (HE.out.trans (if_neg hj))
 clear HE
 have hcut : jb = false ∨ (jb = true ∧ decide (n < x.k) = false) := by
  cases jb
  ·exact .inl rfl
  ·exact .inr ⟨rfl, by simpa using fun h => hj ⟨rfl, h⟩⟩
 clear hj
 rcases hcut with rfl | ⟨rfl, hd⟩
 ·clear x0 x1 x2 x3 x4 x5 hx
  have x0 := (HL0.out.cell 0).trans (show _ = some (Value.int .i64 x.op) from rfl)
  have x1 := (HL0.out.cell 1).trans (show _ = some (Value.int .i64 x.a) from rfl)
  have x2 := (HL0.out.cell 2).trans (show _ = some (Value.int .i64 x.b) from rfl)
  have x3 := (HL0.out.cell 3).trans (show _ = some (Value.int .i64 x.c) from rfl)
  have x4 := (HL0.out.cell 4).trans (show _ = some (Value.int .i64 x.d) from rfl)
  have x5 := (HL0.out.cell 5).trans (show _ = some (Value.int .u64 (x.k : Int)) from rfl)
  have hx := HL0.out.lt
  go_wp2_with fail
  refine (HN.out _).mono ?_
  rintro e w4 ⟨rfl, hb4⟩
  clear x0 x1 x2 x3 x4 x5 hx
  replace HL0 := Lib.hid (HL0.out.below hb4 HL0.out.lt)
  replace HB0 := Lib.hid (HB0.out.trans ((hb4).mono HB0.out.size))
  clear hb4
  have x0 := (HL0.out.cell 0).trans (show _ = some (Value.int .i64 x.op) from rfl)
  have x1 := (HL0.out.cell 1).trans (show _ = some (Value.int .i64 x.a) from rfl)
  have x2 := (HL0.out.cell 2).trans (show _ = some (Value.int .i64 x.b) from rfl)
  have x3 := (HL0.out.cell 3).trans (show _ = some (Value.int .i64 x.c) from rfl)
  have x4 := (HL0.out.cell 4).trans (show _ = some (Value.int .i64 x.d) from rfl)
  have x5 := (HL0.out.cell 5).trans (show _ = some (Value.int .u64 (x.k : Int)) from rfl)
  have hx := HL0.out.lt
  cases nb
  ·have HE9 : Hid (instrE rs n x = 0) := HEJ.out.trans (if_pos rfl)
   go_wp2
   go_ret
   exact ⟨ret_int (by rw [HE9.out]; rfl), HB0.out⟩
  have HE3 := Lib.hid (HEJ.out.trans (if_neg (by decide)))
  obtain ⟨hc0, hc7⟩ := HC.out trivial rfl
  by_cases hcl : (rs.length : Int) ≤ x.c
  ·have HE9 : Hid (instrE rs n x = 7) := HE3.out.trans (if_pos hcl)
   have e3 : decide ((rs.length : Int) ≤ x.c) = true := by simpa using hcl
   go_wp2
   go_ret
   exact ⟨ret_int (by rw [HE9.out]; rfl), HB0.out⟩
  have HE4 := Lib.hid (HE3.out.trans (if_neg hcl))
  have e3 : decide ((rs.length : Int) ≤ x.c) = false := by simpa using hcl
  by_cases h19 : x.op = 19
  ·have e4 : (x.op == 19) = true := by simpa using h19
   obtain ⟨r, hr⟩ : ∃ r, rs[x.c.toNat]? = some r := ⟨_, List.getElem?_eq_getElem (by omega)⟩
   have hgd : rs.getD x.c.toNat default = r := by rw [List.getD_eq_getElem?_getD, hr]; rfl
   have hro := of_decide_eq_true (HO.out r (List.mem_of_getElem? hr))
   obtain ⟨b, off, rfl, hbl, hg⟩ := RisAt.at_ (HH.out.later HB0.out) hr
   have g2 := hg 2 _ (by decide) rfl
   have hr1 : 1 ≤ r.r := by omega
   have hr8 : r.r ≤ 8 := by omega
   have hcl2 : x.c < (rs.length : Int) := by omega
   rw [hgd] at HE4
   clear hg hro hgd hr
   by_cases hrk : r.r ≤ (x.k : Int)
   ·have HE9 : Hid (instrE rs n x = 7) := HE4.out.trans (if_pos ⟨h19, hrk⟩)
    have e5 : decide (r.r ≤ (x.k : Int)) = true := by simpa using hrk
    have e6 : IntKind.u64.wrap r.r = r.r := IntWalk.u64_in _ (by omega)
    clear h19 HEJ HE3 HE4
    go_wp2
    go_quiet (fail)
    go_wp2
    go_ret
    exact ⟨ret_int (by rw [HE9.out]; rfl), below_drewN HB0.out _⟩
   ·have HE9 : Hid (instrE rs n x = 0) := HE4.out.trans (if_neg (fun h => hrk h.2))
    have e5 : decide (r.r ≤ (x.k : Int)) = false := by simpa using hrk
    have e6 : IntKind.u64.wrap r.r = r.r := IntWalk.u64_in _ (by omega)
    clear h19 HEJ HE3 HE4
    go_wp2
    go_quiet (fail)
    go_wp2
    go_ret
    exact ⟨ret_int (by rw [HE9.out]; rfl), below_drewN HB0.out _⟩
  ·have HE9 : Hid (instrE rs n x = 0) := HE4.out.trans (if_neg (fun h => h19 h.1))
   have e4 : (x.op == 19) = false := by simpa using h19
   clear h19 HEJ HE3 HE4
   go_wp2
   go_quiet (fail)
   go_wp2
   go_ret
   exact ⟨ret_int (by rw [HE9.out]; rfl), below_drewN HB0.out _⟩
 ·have hd2 : decide ((n : Int) < (x.k : Int)) = false := by simpa using hd
  clear x0 x1 x2 x3 x4 x5 hx
  have x0 := (HL0.out.cell 0).trans (show _ = some (Value.int .i64 x.op) from rfl)
  have x1 := (HL0.out.cell 1).trans (show _ = some (Value.int .i64 x.a) from rfl)
  have x2 := (HL0.out.cell 2).trans (show _ = some (Value.int .i64 x.b) from rfl)
  have x3 := (HL0.out.cell 3).trans (show _ = some (Value.int .i64 x.c) from rfl)
  have x4 := (HL0.out.cell 4).trans (show _ = some (Value.int .i64 x.d) from rfl)
  have x5 := (HL0.out.cell 5).trans (show _ = some (Value.int .u64 (x.k : Int)) from rfl)
  have hx := HL0.out.lt
  go_wp2_with fail
  refine (HN.out _).mono ?_
  rintro e w4 ⟨rfl, hb4⟩
  clear x0 x1 x2 x3 x4 x5 hx
  replace HL0 := Lib.hid (HL0.out.below hb4 HL0.out.lt)
  replace HB0 := Lib.hid (HB0.out.trans ((hb4).mono HB0.out.size))
  clear hb4
  have x0 := (HL0.out.cell 0).trans (show _ = some (Value.int .i64 x.op) from rfl)
  have x1 := (HL0.out.cell 1).trans (show _ = some (Value.int .i64 x.a) from rfl)
  have x2 := (HL0.out.cell 2).trans (show _ = some (Value.int .i64 x.b) from rfl)
  have x3 := (HL0.out.cell 3).trans (show _ = some (Value.int .i64 x.c) from rfl)
  have x4 := (HL0.out.cell 4).trans (show _ = some (Value.int .i64 x.d) from rfl)
  have x5 := (HL0.out.cell 5).trans (show _ = some (Value.int .u64 (x.k : Int)) from rfl)
  have hx := HL0.out.lt
  cases nb
  ·have HE9 : Hid (instrE rs n x = 0) := HEJ.out.trans (if_pos rfl)
   go_wp2
   go_ret
   exact ⟨ret_int (by rw [HE9.out]; rfl), HB0.out⟩
  have HE3 := Lib.hid (HEJ.out.trans (if_neg (by decide)))
  obtain ⟨hc0, hc7⟩ := HC.out trivial rfl
  by_cases hcl : (rs.length : Int) ≤ x.c
  ·have HE9 : Hid (instrE rs n x = 7) := HE3.out.trans (if_pos hcl)
   have e3 : decide ((rs.length : Int) ≤ x.c) = true := by simpa using hcl
   go_wp2
   go_ret
   exact ⟨ret_int (by rw [HE9.out]; rfl), HB0.out⟩
  have HE4 := Lib.hid (HE3.out.trans (if_neg hcl))
  have e3 : decide ((rs.length : Int) ≤ x.c) = false := by simpa using hcl
  by_cases h19 : x.op = 19
  ·have e4 : (x.op == 19) = true := by simpa using h19
   obtain ⟨r, hr⟩ : ∃ r, rs[x.c.toNat]? = some r := ⟨_, List.getElem?_eq_getElem (by omega)⟩
   have hgd : rs.getD x.c.toNat default = r := by rw [List.getD_eq_getElem?_getD, hr]; rfl
   have hro := of_decide_eq_true (HO.out r (List.mem_of_getElem? hr))
   obtain ⟨b, off, rfl, hbl, hg⟩ := RisAt.at_ (HH.out.later HB0.out) hr
   have g2 := hg 2 _ (by decide) rfl
   have hr1 : 1 ≤ r.r := by omega
   have hr8 : r.r ≤ 8 := by omega
   have hcl2 : x.c < (rs.length : Int) := by omega
   rw [hgd] at HE4
   clear hg hro hgd hr
   by_cases hrk : r.r ≤ (x.k : Int)
   ·have HE9 : Hid (instrE rs n x = 7) := HE4.out.trans (if_pos ⟨h19, hrk⟩)
    have e5 : decide (r.r ≤ (x.k : Int)) = true := by simpa using hrk
    have e6 : IntKind.u64.wrap r.r = r.r := IntWalk.u64_in _ (by omega)
    clear h19 HEJ HE3 HE4
    go_wp2
    go_quiet (fail)
    go_wp2
    go_ret
    exact ⟨ret_int (by rw [HE9.out]; rfl), below_drewN HB0.out _⟩
   ·have HE9 : Hid (instrE rs n x = 0) := HE4.out.trans (if_neg (fun h => hrk h.2))
    have e5 : decide (r.r ≤ (x.k : Int)) = false := by simpa using hrk
    have e6 : IntKind.u64.wrap r.r = r.r := IntWalk.u64_in _ (by omega)
    clear h19 HEJ HE3 HE4
    go_wp2
    go_quiet (fail)
    go_wp2
    go_ret
    exact ⟨ret_int (by rw [HE9.out]; rfl), below_drewN HB0.out _⟩
  ·have HE9 : Hid (instrE rs n x = 0) := HE4.out.trans (if_neg (fun h => h19 h.1))
   have e4 : (x.op == 19) = false := by simpa using h19
   clear h19 HEJ HE3 HE4
   go_wp2
   go_quiet (fail)
   go_wp2
   go_ret
   exact ⟨ret_int (by rw [HE9.out]; rfl), below_drewN HB0.out _⟩
end Go.Proofs.Ytakggmfpgopcgaa
