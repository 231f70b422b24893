import Derived.Test.YtoimipcnllmneaaLaw4
namespace Go.Proofs.Ytoimipcnllmneaa
open Go.RowKit
set_option linter.unusedVariables false
set_option linter.unusedSimpArgs false
theorem RefSl.from_ {w : World} {v : Value} {r : Nat} {L : List Sl} {B : Nat} (h : RefSl w v r L) (hf : RefFrom B v) (hl : 1 ≤ L.length) :
    ∃ A c, v = .agg #[.slice (some A) L.length c, .int .i64 (r : Int)] ∧ SeqS w 3 (.slice (some A) L.length c) L.length (rowsOf slF L) ∧ B ≤ A.block := by
  obtain ⟨A, c, rfl, hs⟩ := h
  obtain ⟨A', n', c', R, e, hb⟩ := hf
  simp only [Value.agg.injEq, Array.mk.injEq, List.cons.injEq, Value.slice.injEq] at e
  obtain ⟨⟨rfl, _, _⟩, _⟩ := e
  obtain ⟨x, hx⟩ : ∃ x, L[0]? = some x := ⟨_, List.getElem?_eq_getElem (by omega)⟩
  obtain ⟨b, o, rfl, _⟩ := SeqS.at_ slF_length (by decide) hs hx
  exact ⟨_, c, rfl, hs, hb b o rfl⟩
theorem all_same {w : World} {g b r : Nat} {T : TypeId} {pre post : List Value} {L : List Sl} (o' : Nat) (A : Option Addr) (c : Nat) (h : SlAt w g T pre post r L) (ho : pre.length = o')
    (hb : Lies w b 31 #[.slice A L.length c, .int .i64 (r : Int)]) (hs : SeqS w 3 (.slice A L.length c) L.length (rowsOf slF L)) :
    Calls Try.prog 16 #[.pointer (some ⟨g, o', none⟩)] w fun e w' => ∃ A8 c8, e = .returned (.slice A8 L.length c8) ∧ w'.cell? ⟨b, 0, none⟩ = some (.slice A L.length c) ∧
      Hid (∀ w2, w2 = w' → Calls Try.prog 21 #[.slice A8 L.length c8, .slice A L.length c] w2 fun e w'' => e = .returned (.bool true) ∧ ∃ n, w'' = w'.drewN n) ∧ Hid (Below w.heap.size w w') :=
  (slotsAll h ho).mono fun e w' ⟨v, he, hown, hbl⟩ => by
    obtain ⟨A8, c8, rfl, _⟩ := (SeqS.of_owns hown).form
    have hl := hb.below hbl hb.lt
    refine ⟨A8, c8, he, (hl.cell 0).trans rfl, fun w2 e2 => ?_, hbl⟩
    subst e2
    have := ref12Same _ _ L L _ _ w2 (SeqS.of_owns hown) (hs.later hbl)
    rw [decide_eq_true rfl] at this
    exact this
theorem ref12PutF {w : World} {A : Addr} {c r t v p B : Nat} {L : List Sl} (hs : SeqS w 3 (.slice (some A) p c) p (rowsOf slF L)) (hL : L.length = p) (hl : SlOk r L) (ht : t ≤ 18446744073709551615) (hv : v ≤ 18446744073709551615) (hB : B ≤ A.block) (hBw : B ≤ w.heap.size) :
    Calls Try.prog 20 #[.agg #[.slice (some A) p c, .int .i64 (r : Int)], .int .u64 t, .int .u64 v] w fun e w' => ∃ b o c', e = .returned (.tuple #[.int .i64 (putE L t : Nat), .agg #[.slice (some ⟨b, o, none⟩) p c', .int .i64 (r : Int)]]) ∧
      SeqS w' 3 (.slice (some ⟨b, o, none⟩) p c') p (rowsOf slF (putS r L t v)) ∧ B ≤ b ∧ Below w.heap.size w w' := by
  subst hL
  refine (ref12Put _ r t v L w ⟨some A, c, rfl, hs⟩ hl ht hv).mono fun e w' ⟨v', he, hr, hb, hf⟩ => ?_
  obtain ⟨A', c', rfl, hq, hB'⟩ := hr.from_ (hf B ⟨_, _, _, _, rfl, fun b o e => by simp at e; rw [e] at hB; exact hB⟩ hBw) (by rw [putS_length]; exact hl.1)
  rw [putS_length] at he hq
  obtain ⟨x, hx⟩ : ∃ x, (putS r L t v)[0]? = some x := ⟨_, List.getElem?_eq_getElem (by rw [putS_length]; exact hl.1)⟩
  obtain ⟨b, o, e, _⟩ := SeqS.at_ slF_length (by decide) hq hx
  simp only [Option.some.injEq] at e
  subst e
  exact ⟨b, o, c', he, hq, hB', hb⟩
theorem ref12GetF {w : World} {A : Addr} {c r t p B : Nat} {j : Int} {L : List Sl} (hs : SeqS w 3 (.slice (some A) p c) p (rowsOf slF L)) (hL : L.length = p) (hl : SlOk r L) (ht : t ≤ 18446744073709551615) (hB : B ≤ A.block) (hBw : B ≤ w.heap.size) :
    Calls Try.prog 19 #[.agg #[.slice (some A) p c, .int .i64 (r : Int)], .int .i64 j, .int .u64 t] w fun e w' => ∃ b o c', e = .returned (.tuple #[.int .u64 (getV r L j t : Nat), .int .i64 (getE r L j t : Nat), .agg #[.slice (some ⟨b, o, none⟩) p c', .int .i64 (r : Int)]]) ∧
      SeqS w' 3 (.slice (some ⟨b, o, none⟩) p c') p (rowsOf slF (getS r L j t)) ∧ B ≤ b ∧ Below w.heap.size w w' := by
  subst hL
  refine (ref12Get _ r t j L w ⟨some A, c, rfl, hs⟩ hl ht).mono fun e w' ⟨v', he, hr, hb, hf⟩ => ?_
  obtain ⟨A', c', rfl, hq, hB'⟩ := hr.from_ (hf B ⟨_, _, _, _, rfl, fun b o e => by simp at e; rw [e] at hB; exact hB⟩ hBw) (by rw [getS_length]; exact hl.1)
  rw [getS_length] at he hq
  obtain ⟨x, hx⟩ : ∃ x, (getS r L j t)[0]? = some x := ⟨_, List.getElem?_eq_getElem (by rw [getS_length]; exact hl.1)⟩
  obtain ⟨b, o, e, _⟩ := SeqS.at_ slF_length (by decide) hq hx
  simp only [Option.some.injEq] at e
  subst e
  exact ⟨b, o, c', he, hq, hB', hb⟩
theorem seq_ne {w : World} {b b' o p c n c0 : Nat} {T : TypeId} {A : Option Addr} {r : Int} {L : List Sl} (hb : Lies w b T #[.slice A n c0, .int .i64 r]) (hs : SeqS w 3 (.slice (some ⟨b', o, none⟩) p c) p (rowsOf slF L)) (hp : 1 ≤ L.length) : b' ≠ b := by
  rintro rfl
  obtain ⟨x, hx⟩ : ∃ x, L[0]? = some x := ⟨_, List.getElem?_eq_getElem (by omega)⟩
  obtain ⟨b2, o2, e, _, g⟩ := SeqS.at_ slF_length (by decide) hs hx
  simp only [Option.some.injEq, Addr.mk.injEq, and_true] at e
  obtain ⟨rfl, rfl⟩ := e
  have h0 := g 0 _ (by decide) rfl
  have h1 := g 1 _ (by decide) rfl
  rw [hb.cell] at h0 h1
  match o, h0, h1 with
  | 0, h0, _ => simp at h0
  | 1, h0, _ => simp at h0
  | o + 2, h0, _ => simp at h0
/-- The document's places, put into their variable. -/
theorem next_laid {w0 w : World} {b g b' o' p c n c0 r : Nat} {A : Option Addr} {T : TypeId} {pre post : List Value} {L : List Sl} {ob : Obj} (lb : Lies w b 31 #[.slice A n c0, .int .i64 (r : Int)])
    (hs : SeqS w 3 (.slice (some ⟨b', o', none⟩) p c) p (rowsOf slF L)) (hp : 1 ≤ L.length) (hsl : SlAt w g T pre post r L) (hk : Kept (oneRow g) w0 w) (hbg : b ≠ g) (hb0 : w0.heap.size ≤ b) (hL : L.length = p) :
    Lies (((w.setCell ⟨b, 0, none⟩ (.slice (some ⟨b', o', none⟩) p c)).setCell ⟨b, 1, none⟩ (.int .i64 (r : Int))).alloc ob) b 31 #[.slice (some ⟨b', o', none⟩) p c, .int .i64 (r : Int)] ∧
    SeqS (((w.setCell ⟨b, 0, none⟩ (.slice (some ⟨b', o', none⟩) p c)).setCell ⟨b, 1, none⟩ (.int .i64 (r : Int))).alloc ob) 3 (.slice (some ⟨b', o', none⟩) p c) p (rowsOf slF L) ∧
    SlAt (((w.setCell ⟨b, 0, none⟩ (.slice (some ⟨b', o', none⟩) p c)).setCell ⟨b, 1, none⟩ (.int .i64 (r : Int))).alloc ob) g T pre post r L ∧
    Kept (oneRow g) w0 (((w.setCell ⟨b, 0, none⟩ (.slice (some ⟨b', o', none⟩) p c)).setCell ⟨b, 1, none⟩ (.int .i64 (r : Int))).alloc ob) := by
  have hne := seq_ne lb hs hp
  have k1 : Kept (oneRow b) w (((w.setCell ⟨b, 0, none⟩ (.slice (some ⟨b', o', none⟩) p c)).setCell ⟨b, 1, none⟩ (.int .i64 (r : Int))).alloc ob) :=
    ((Kept.put w b 0 _).trans (Kept.put _ b 1 _) (fun _ _ h => h)).trans (Kept.alloc (oneRow b) _ ob) (fun _ _ h => h)
  refine ⟨(slice_put _ _ lb).alloc ob, hs.keptT k1 (fun b2 c2 o2 e => ?_), hsl.kept k1 (fun e : g = b => hbg e.symm), hk.trans k1 (fun i hi (e : i = b) => by omega)⟩
  simp only [Value.slice.injEq, Option.some.injEq, Addr.mk.injEq] at e
  obtain ⟨⟨rfl, _⟩, _⟩ := e
  exact hne
/-- How all stands within a round: the document's places in block b, the program's in block g, the call that is looked at in block q. -/
def PlayS (w0 w : World) (b g q : Nat) (T : TypeId) (pre post : List Value) (r : Nat) (L : List Sl) (A : Addr) (c p : Nat) (x : Op4) : Prop :=
  Lies w b 31 #[.slice (some A) p c, .int .i64 (r : Int)] ∧ SeqS w 3 (.slice (some A) p c) p (rowsOf slF L) ∧ SlAt w g T pre post r L ∧ Kept (oneRow g) w0 w ∧
    Lies w q 39 #[.int .i64 x.k, .int .i64 x.j, .int .u64 (x.t : Int), .int .u64 (x.v : Int)]
section
variable {w0 w w' : World} {b g q r c p : Nat} {T : TypeId} {pre post : List Value} {L : List Sl} {A : Addr} {x : Op4}
theorem PlayS.later (h : PlayS w0 w b g q T pre post r L A c p x) (hb : Below w.heap.size w w') : PlayS w0 w' b g q T pre post r L A c p x := by
  obtain ⟨h1, h2, h3, h4, h5⟩ := h
  exact ⟨h1.below hb h1.lt, h2.later hb, h3.later hb, kept_below_ h4 hb, h5.below hb h5.lt⟩
theorem PlayS.drewN (h : PlayS w0 w b g q T pre post r L A c p x) (n : Nat) : PlayS w0 (w.drewN n) b g q T pre post r L A c p x := h.later (below_drewN (Below.refl _ _) n)
/-- A call of the slots' own has turned their block alone. -/
theorem PlayS.own {L' : List Sl} (h : PlayS w0 w b g q T pre post r L A c p x) (hk : Kept (oneRow g) w w') (hs : SlAt w' g T pre post r L') (hb : b ≠ g) (hq : q ≠ g) (hA : g + 1 ≤ A.block) :
    Lies w' b 31 #[.slice (some A) p c, .int .i64 (r : Int)] ∧ SeqS w' 3 (.slice (some A) p c) p (rowsOf slF L) ∧ SlAt w' g T pre post r L' ∧ Kept (oneRow g) w0 w' ∧
    Lies w' q 39 #[.int .i64 x.k, .int .i64 x.j, .int .u64 (x.t : Int), .int .u64 (x.v : Int)] := by
  obtain ⟨h1, h2, h3, h4, h5⟩ := h
  refine ⟨h1.kept hk hb, h2.keptT hk (fun b' c o e => ?_), hs, h4.trans hk (fun _ _ h => h), h5.kept hk hq⟩
  simp only [Value.slice.injEq, Option.some.injEq] at e
  rw [e.1] at hA
  intro (e2 : b' = g)
  simp only at hA
  omega
theorem PlayS.cells (h : PlayS w0 w b g q T pre post r L A c p x) : w.cell? ⟨q, 0, none⟩ = some (.int .i64 x.k) ∧ w.cell? ⟨q, 1, none⟩ = some (.int .i64 x.j) ∧ w.cell? ⟨q, 2, none⟩ = some (.int .u64 (x.t : Int)) ∧ w.cell? ⟨q, 3, none⟩ = some (.int .u64 (x.v : Int)) ∧
    w.cell? ⟨b, 0, none⟩ = some (.slice (some A) p c) ∧ w.cell? ⟨b, 1, none⟩ = some (.int .i64 (r : Int)) := by
  obtain ⟨h1, h2, h3, h4, h5⟩ := h
  exact ⟨h5.cell 0, h5.cell 1, h5.cell 2, h5.cell 3, h1.cell 0, h1.cell 1⟩
end
set_option maxHeartbeats 4000000 in
set_option maxRecDepth 100000 in
theorem plays_walk {g o r : Nat} {T : TypeId} {pre post : List Value} (L0 : List Sl) (ops : List Op4) (A0 : Addr) (c0 : Nat) (B : Option Addr) (cb : Nat) (w : World) (h : SlAt w g T pre post r L0) (ho : pre.length = o)
    (hr : SeqS w 3 (.slice (some A0) L0.length c0) L0.length (rowsOf slF L0)) (hA : g + 1 ≤ A0.block) (hs : SeqS w 4 (.slice B ops.length cb) ops.length (rowsOf opF ops)) (hB : ops.length ≠ 0 → ∀ b o, B = some ⟨b, o, none⟩ → b ≠ g) (hok : ∀ x ∈ ops, opOk x) (hlen : ops.length ≤ 200) :
    Calls Try.prog 10 #[.pointer (some ⟨g, o, none⟩), .agg #[.slice (some A0) L0.length c0, .int .i64 (r : Int)], .slice B ops.length cb] w fun e w' => e = .returned (.bool true) ∧ Kept (oneRow g) w w' := by
  have hglt := h.lt
  obtain ⟨p, hp⟩ : ∃ p, L0.length = p := ⟨_, rfl⟩
  have l0 := Lies.made w 31 #[.slice (some A0) L0.length c0, .int .i64 (r : Int)]
  have k0 := Kept.alloc (oneRow g) w (.cells #[.slice (some A0) L0.length c0, .int .i64 (r : Int)] 31)
  have b0 := (Below.refl w.heap.size w).alloc (Nat.le_refl _) (.cells #[.slice (some A0) L0.length c0, .int .i64 (r : Int)] 31)
  have hp1 : 1 ≤ p := by rw [← hp]; exact h.ok.1
  have hp2 : p ≤ 64 := by rw [← hp]; exact h.ok.2.1
  have H0 := Lib.hid (h.later b0)
  have R0 := Lib.hid (hr.later b0)
  rw [hp] at l0 R0 k0
  have L00 := Lib.hid l0
  have K0 := Lib.hid k0
  have HS := Lib.hid hs
  have HOK := Lib.hid hok
  have HSB := Lib.hid hB
  clear l0 k0 b0 h hr hs hok hB
  rw [hp]
  rw [hp] at H0
  have HP := Lib.hid hp
  clear hp
  go_enter Try.func10, Try.ntmps10
  go_wp2_with fail
  generalize w.alloc (.cells #[.slice (some A0) p c0, .int .i64 (r : Int)] 31) = wA at *
  go_loopw [24] (fun u wr => ∃ (k : Nat) (L : List Sl) (A : Addr) (c : Nat), k ≤ ops.length ∧ u = .int .i64 k ∧ L.length = p ∧ Lies wr w.heap.size 31 #[.slice (some A) p c, .int .i64 (r : Int)] ∧ SeqS wr 3 (.slice (some A) p c) p (rowsOf slF L) ∧ g + 1 ≤ A.block ∧ SlAt wr g T pre post r L ∧ Kept (oneRow g) w wr)
    (fun u _ => ops.length - (intOf u).toNat)
  case atStart => exact ⟨0, L0, A0, c0, by omega, rfl, HP.out, L00.out, R0.out, hA, H0.out, K0.out⟩
  case round =>
    clear L00 R0 hA H0 K0 HP
    obtain ⟨k, L, A, c, hk, rfl, hL, lb, hq, hA, hs, hkk⟩ := hrel
    by_cases hlt : k < ops.length
    · have hki : (k : Int) < (ops.length : Int) := by omega
      obtain ⟨x, hx⟩ : ∃ x, ops[k]? = some x := ⟨_, List.getElem?_eq_getElem hlt⟩
      obtain ⟨o1, o2, o3, o4, o5, o6⟩ := HOK.out x (List.mem_of_getElem? hx)
      have hsc := HS.out.keptT hkk (fun b c o e => by
        simp only [Value.slice.injEq] at e
        exact HSB.out (by omega) b o e.1)
      obtain ⟨b, off, rfl, hbl, gx⟩ := SeqS.at_ opF_length (by decide) hsc hx
      have x0 := gx 0 _ (by decide) rfl
      have x1 := gx 1 _ (by decide) rfl
      have x2 := gx 2 _ (by decide) rfl
      have x3 := gx 3 _ (by decide) rfl
      rw [Nat.add_zero] at x0
      obtain ⟨y, hy⟩ : ∃ y, slX L x.t = y := ⟨_, rfl⟩
      have o7 : (0 : Int) ≤ (x.t : Int) := by omega
      have hyi := slX_get hs.ok.1 x.t
      rw [hy, hL] at hyi
      have d0 := (lb.cell 0).trans (show _ = some (Value.slice (some A) p c) from rfl)
      have d1 := (lb.cell 1).trans (show _ = some (Value.int .i64 (r : Int)) from rfl)
      have hwl : w.heap.size < wr.heap.size := lb.lt
      have HQ0 := Lib.hid hq
      have hbA : Below wr.heap.size wr (wr.alloc (.cells #[.int .i64 x.k, .int .i64 x.j, .int .u64 (x.t : Int), .int .u64 (x.v : Int)] 39)) := (Below.refl _ _).alloc (Nat.le_refl _) _
      have hps : PlayS w (wr.alloc (.cells #[.int .i64 x.k, .int .i64 x.j, .int .u64 (x.t : Int), .int .u64 (x.v : Int)] 39)) w.heap.size g wr.heap.size T pre post r L A c p x :=
        ⟨lb.below hbA lb.lt, hq.later hbA, hs.later hbA, kept_below_ hkk hbA, Lies.made _ _ _⟩
      have hqg : wr.heap.size ≠ g := by have := hs.lt; omega
      have hwg : w.heap.size ≠ g := by omega
      have hSO := hs.ok
      have hmt : Int.tmod (x.t : Int) (p : Int) = ((x.t % p : Nat) : Int) := rfl
      have hml : x.t % p < p := Nat.mod_lt _ (by omega)
      have hwp : IntKind.u64.wrap (p : Int) = (p : Int) := by rw [IntKind.wrap_u64]; omega
      have HSO := Lib.hid hSO
      have HY := Lib.hid hy
      have HLL := Lib.hid hL
      have HYI := Lib.hid hyi
      clear hbA lb hq hs hkk gx hx hsc hSO hy hL hyi hbl
      obtain ⟨tI, htI⟩ : ∃ tI : Int, (x.t : Int) = tI := ⟨_, rfl⟩
      have ht0 : 0 ≤ tI := by omega
      have ht1 : tI ≤ 18446744073709551615 := by omega
      rw [htI] at hmt x2 hps
      have hd2 : ¬ tI < 4611686018427387904 ∨ 2 * tI ≤ 18446744073709551615 := by omega
      have HT := Lib.hid htI
      have HPS := Lib.hid hps
      have O5 := Lib.hid o5
      clear hps
      obtain ⟨bA, oA, heA, hbA, gA⟩ := SeqS.at_ slF_length (by decide) HQ0.out HYI.out
      simp only [Option.some.injEq] at heA
      have y0 := gA 0 _ (by decide) rfl
      rw [Nat.add_zero] at y0
      have hml2 : ((x.t % p : Nat) : Int) < (p : Int) := by omega
      have HA := Lib.hid hA
      clear gA hA o5 hml
      subst heA
      generalize x.t % p = i at *
      by_cases tb : tI < 4611686018427387904
      · have e5 : decide (tI < 4611686018427387904) = true := by simpa using tb
        obtain ⟨fb, hfb⟩ : ∃ fb, ((y.s : Int) == 2 * tI) = fb := ⟨_, rfl⟩
        have hf : freeB L x.t = fb := by
          unfold freeB; rw [HY.out, ← hfb, Bool.eq_iff_iff]; simp; omega
        have HF := Lib.hid hf
        clear hf
        clear htI hd2
        go_wp2
        go_quiet (fail)
        have HP2 : Hid (PlayS w ((wr.alloc (.cells #[.int .i64 x.k, .int .i64 x.j, .int .u64 tI, .int .u64 (x.v : Int)] 39)).drewN nq) w.heap.size g wr.heap.size T pre post r L ⟨bA, oA, none⟩ c p x) := HPS.out.drewN nq
        generalize (wr.alloc (.cells #[.int .i64 x.k, .int .i64 x.j, .int .u64 tI, .int .u64 (x.v : Int)] 39)).drewN nq = w2 at *
        clear HPS d0 d1 HQ0 x0 x1 x2 x3
        obtain ⟨c0, c1, c2, c3, c4, c5⟩ := HP2.out.cells
        rw [HT.out] at c2
        have hget := ref12Get (.agg #[.slice (some ⟨bA, oA, none⟩) p c, .int .i64 (r : Int)]) r x.t x.j L w2 ⟨some ⟨bA, oA, none⟩, c, by rw [HLL.out], by rw [HLL.out]; exact HP2.out.2.1⟩ HSO.out O5.out
        rw [HT.out] at hget
        obtain ⟨E, hE⟩ : ∃ E, getE r L x.j x.t = E := ⟨_, rfl⟩
        rw [hE] at hget
        have HE := Lib.hid hE
        have HGET := Lib.hid hget
        clear hget hE
        go_wp2_with fail
        refine HGET.out.mono ?_
        rintro e w3 ⟨v3, rfl, ⟨A3, c3', rfl, _⟩, hb3, _⟩
        have hp3 := HP2.out.later hb3
        have hp4 := hp3.later ((Below.refl w3.heap.size w3).alloc (Nat.le_refl _) (.cells #[.slice A3 (getS r L x.j x.t).length c3', .int .i64 (r : Int)] 31))
        have HP4 := Lib.hid hp4
        clear c0 c1 c2 c3 c4 c5
        obtain ⟨c0, c1, c2, c3, c4, c5⟩ := hp3.cells
        rw [HT.out] at c2
        have hqw : wr.heap.size < w3.heap.size := hp3.2.2.2.2.lt
        clear hp4 HP2 HGET hb3 hp3
        go_wp2_with fail
        generalize w3.alloc (.cells #[.slice A3 (getS r L x.j x.t).length c3', .int .i64 (r : Int)] 31) = w4 at *
        clear c0 c1 c2 c3 c4 c5 hqw
        have hfree := slotsIsFree x.t HP4.out.2.2.1 ho O5.out
        rw [HT.out, HF.out] at hfree
        have HFREE := Lib.hid hfree
        clear hfree
        refine HFREE.out.mono ?_
        rintro e w5 ⟨rfl, nd, hw5⟩
        have hp5 : PlayS w w5 w.heap.size g wr.heap.size T pre post r L ⟨bA, oA, none⟩ c p x := by rw [hw5]; exact HP4.out.drewN nd
        obtain ⟨c0, c1, c2, c3, c4, c5⟩ := hp5.cells
        rw [HT.out] at c2
        have hhas := slotsHas x.j x.t hp5.2.2.1 ho O5.out
        rw [HT.out, HE.out] at hhas
        have e7 : ((E : Int) == 0) = decide (E = 0) := by rw [Bool.eq_iff_iff]; simp
        have HHAS := Lib.hid hhas
        have HP5 := Lib.hid hp5
        clear hhas hp5 hw5 HP4 HFREE
        generalize decide (E = 0) = dB at *
        go_wp2_with fail
        refine HHAS.out.mono ?_
        rintro e w6 ⟨rfl, hb6⟩
        have hp6 := HP5.out.later hb6
        clear c0 c1 c2 c3 c4 c5 HP5 HHAS hb6
        obtain ⟨c0, c1, c2, c3, c4, c5⟩ := hp6.cells
        rw [HT.out] at c2
        have HP6 := Lib.hid hp6
        clear hp6
        by_cases kk : x.k.tmod 2 = 0
        · have e8 : (x.k.tmod 2 == 0) = true := by rw [beq_iff_eq]; exact kk
          clear kk
          have hput := slotsPut x.t x.v HP6.out.2.2.1 ho O5.out o6
          rw [HT.out] at hput
          have HPUT := Lib.hid hput
          clear hput
          go_wp2_with fail
          refine HPUT.out.mono ?_
          rintro e w7 ⟨rfl, hs7, hk7⟩
          obtain ⟨l7, q7, hs7, hk7, lo7⟩ := HP6.out.own hk7 hs7 hwg hqg HA.out
          have hbs7 : w.heap.size ≤ w7.heap.size := hk7.size
          have hrp := ref12PutF (t := x.t) (v := x.v) (B := g + 1) q7 HLL.out HSO.out O5.out o6 HA.out (by omega)
          rw [HT.out] at hrp
          have HRP := Lib.hid hrp
          have hpl : (putS r L x.t x.v).length = p := by rw [putS_length]; exact HLL.out
          have hpo := putS_ok HSO.out x.t x.v (by omega)
          generalize putE L x.t = E1 at *
          generalize putS r L x.t x.v = L1 at *
          have HPO := Lib.hid hpo
          have HPL := Lib.hid hpl
          clear c0 c1 c2 c3 c4 c5
          have c2 := (lo7.cell 2).trans (show _ = some (Value.int .u64 tI) from by rw [← HT.out]; rfl)
          have c3 := (lo7.cell 3).trans (show _ = some (Value.int .u64 (x.v : Int)) from rfl)
          have c4 := (l7.cell 0).trans (show _ = some (Value.slice (some ⟨bA, oA, none⟩) p c) from rfl)
          have c5 := (l7.cell 1).trans (show _ = some (Value.int .i64 (r : Int)) from rfl)
          have L7 := Lib.hid l7
          have HS7 := Lib.hid hs7
          have HK7 := Lib.hid hk7
          clear hpo hpl hrp l7 q7 hs7 hk7 lo7 HPUT HP6
          go_wp2_with fail
          refine HRP.out.mono ?_
          rintro e w8 ⟨b8, o8, c8, rfl, q8, hA8, hb8⟩
          have l8 := L7.out.below hb8 L7.out.lt
          have d4 := (l8.cell 0).trans (show _ = some (Value.slice (some ⟨bA, oA, none⟩) p c) from rfl)
          have d5 := (l8.cell 1).trans (show _ = some (Value.int .i64 (r : Int)) from rfl)
          have f4 := l8.free 0
          have f5 := l8.free 1
          have hw8 := l8.lt
          obtain ⟨l9, q9, hs9, hkz⟩ := next_laid (ob := .cells #[.slice (some ⟨b8, o8, none⟩) p c8, .int .i64 (r : Int)] 31) l8 q8 (by rw [HPL.out]; exact hp1) (HS7.out.later hb8) (kept_below_ HK7.out hb8) hwg (Nat.le_refl _) HPL.out
          have HA8 := Lib.hid hA8
          clear c2 c3 c4 c5 l8 q8 hb8 L7 HS7 HK7 hA8
          have hll9 := HPL.out
          have HALL := Lib.hid (all_same (w := World.drew (((w8.setCell ⟨w.heap.size, 0, none⟩ (.slice (some ⟨b8, o8, none⟩) p c8)).setCell ⟨w.heap.size, 1, none⟩ (.int .i64 (r : Int))).alloc (.cells #[.slice (some ⟨b8, o8, none⟩) p c8, .int .i64 (r : Int)] 31))) o (some ⟨b8, o8, none⟩) c8 hs9 ho (by rw [hll9]; exact l9) (by rw [hll9]; exact q9))
          have L9 := Lib.hid l9
          have Q9 := Lib.hid q9
          have S9 := Lib.hid hs9
          have K9 := Lib.hid hkz
          have z0 := (l9.cell 0).trans (show _ = some (Value.slice (some ⟨b8, o8, none⟩) p c8) from rfl)
          rw [hll9] at HALL
          clear hkz l9 q9 hs9 hll9
          go_wp2_with fail
          go_region_with (first | (go_at_call 16; refine HALL.out.mono ?_; rintro e wX ⟨AX, cX, rfl, yX, HSM, HBX⟩) | (go_at_call 21; refine (HSM.out _ rfl).mono ?_; rintro e wY ⟨rfl, nY, rfl⟩))
          all_goals
            have hbq : Below (World.drew (((w8.setCell ⟨w.heap.size, 0, none⟩ (.slice (some ⟨b8, o8, none⟩) p c8)).setCell ⟨w.heap.size, 1, none⟩ (.int .i64 (r : Int))).alloc (.cells #[.slice (some ⟨b8, o8, none⟩) p c8, .int .i64 (r : Int)] 31))).heap.size (World.drew (((w8.setCell ⟨w.heap.size, 0, none⟩ (.slice (some ⟨b8, o8, none⟩) p c8)).setCell ⟨w.heap.size, 1, none⟩ (.int .i64 (r : Int))).alloc (.cells #[.slice (some ⟨b8, o8, none⟩) p c8, .int .i64 (r : Int)] 31))) (wX.drewN nY) := below_drewN HBX.out nY
            have r1 := (Lies.drew L9.out).below hbq L9.out.lt
            have r2 := (SeqS.drew Q9.out).later hbq
            have s9 : SlAt (World.drew (((w8.setCell ⟨w.heap.size, 0, none⟩ (.slice (some ⟨b8, o8, none⟩) p c8)).setCell ⟨w.heap.size, 1, none⟩ (.int .i64 (r : Int))).alloc (.cells #[.slice (some ⟨b8, o8, none⟩) p c8, .int .i64 (r : Int)] 31))) g T pre post r L1 := S9.out
            have r3 := s9.later hbq
            have r4 := kept_below_ (K9.out.trans (Kept.drew (oneRow g) _) (fun _ _ h => h)) hbq
            clear yX HSM HBX hbq s9 z0
            generalize wX.drewN nY = wY at *
            go_wp2
            go_roundw
            case rel => exact ⟨k + 1, L1, ⟨b8, o8, none⟩, c8, by omega, by go_num, HPL.out, r1, r2, HA8.out, r3, r4⟩
            case measure => simp [intOf]; omega
        · have e8 : (x.k.tmod 2 == 0) = false := by rw [beq_eq_false_iff_ne]; exact kk
          clear kk
          have hput := slotsGet x.j x.t HP6.out.2.2.1 ho O5.out
          rw [HT.out, HE.out] at hput
          have HPUT := Lib.hid hput
          clear hput
          go_wp2_with fail
          refine HPUT.out.mono ?_
          rintro e w7 ⟨rfl, hs7, hk7⟩
          obtain ⟨l7, q7, hs7, hk7, lo7⟩ := HP6.out.own hk7 hs7 hwg hqg HA.out
          have hbs7 : w.heap.size ≤ w7.heap.size := hk7.size
          have hrp := ref12GetF (t := x.t) (j := x.j) (B := g + 1) q7 HLL.out HSO.out O5.out HA.out (by omega)
          rw [HT.out, HE.out] at hrp
          have HRP := Lib.hid hrp
          have hpl : (getS r L x.j x.t).length = p := by rw [getS_length]; exact HLL.out
          have hpo := getS_ok HSO.out x.j x.t
          generalize getV r L x.j x.t = V1 at *
          generalize getS r L x.j x.t = L1 at *
          have HPO := Lib.hid hpo
          have HPL := Lib.hid hpl
          clear c0 c1 c2 c3 c4 c5
          have c1 := (lo7.cell 1).trans (show _ = some (Value.int .i64 x.j) from rfl)
          have c2 := (lo7.cell 2).trans (show _ = some (Value.int .u64 tI) from by rw [← HT.out]; rfl)
          have c4 := (l7.cell 0).trans (show _ = some (Value.slice (some ⟨bA, oA, none⟩) p c) from rfl)
          have c5 := (l7.cell 1).trans (show _ = some (Value.int .i64 (r : Int)) from rfl)
          have L7 := Lib.hid l7
          have HS7 := Lib.hid hs7
          have HK7 := Lib.hid hk7
          clear hpo hpl hrp l7 q7 hs7 hk7 lo7 HPUT HP6
          go_wp2_with fail
          refine HRP.out.mono ?_
          rintro e w8 ⟨b8, o8, c8, rfl, q8, hA8, hb8⟩
          have l8 := L7.out.below hb8 L7.out.lt
          have d4 := (l8.cell 0).trans (show _ = some (Value.slice (some ⟨bA, oA, none⟩) p c) from rfl)
          have d5 := (l8.cell 1).trans (show _ = some (Value.int .i64 (r : Int)) from rfl)
          have f4 := l8.free 0
          have f5 := l8.free 1
          have hw8 := l8.lt
          obtain ⟨l9, q9, hs9, hkz⟩ := next_laid (ob := .cells #[.slice (some ⟨b8, o8, none⟩) p c8, .int .i64 (r : Int)] 31) l8 q8 (by rw [HPL.out]; exact hp1) (HS7.out.later hb8) (kept_below_ HK7.out hb8) hwg (Nat.le_refl _) HPL.out
          have HA8 := Lib.hid hA8
          clear c1 c2 c4 c5 l8 q8 hb8 L7 HS7 HK7 hA8
          have hll9 := HPL.out
          have HALL := Lib.hid (all_same (w := World.drew (((w8.setCell ⟨w.heap.size, 0, none⟩ (.slice (some ⟨b8, o8, none⟩) p c8)).setCell ⟨w.heap.size, 1, none⟩ (.int .i64 (r : Int))).alloc (.cells #[.slice (some ⟨b8, o8, none⟩) p c8, .int .i64 (r : Int)] 31))) o (some ⟨b8, o8, none⟩) c8 hs9 ho (by rw [hll9]; exact l9) (by rw [hll9]; exact q9))
          have L9 := Lib.hid l9
          have Q9 := Lib.hid q9
          have S9 := Lib.hid hs9
          have K9 := Lib.hid hkz
          have z0 := (l9.cell 0).trans (show _ = some (Value.slice (some ⟨b8, o8, none⟩) p c8) from rfl)
          rw [hll9] at HALL
          clear hkz l9 q9 hs9 hll9
          go_wp2_with fail
          go_region_with (first | (go_at_call 16; refine HALL.out.mono ?_; rintro e wX ⟨AX, cX, rfl, yX, HSM, HBX⟩) | (go_at_call 21; refine (HSM.out _ rfl).mono ?_; rintro e wY ⟨rfl, nY, rfl⟩))
          all_goals
            have hbq : Below (World.drew (((w8.setCell ⟨w.heap.size, 0, none⟩ (.slice (some ⟨b8, o8, none⟩) p c8)).setCell ⟨w.heap.size, 1, none⟩ (.int .i64 (r : Int))).alloc (.cells #[.slice (some ⟨b8, o8, none⟩) p c8, .int .i64 (r : Int)] 31))).heap.size (World.drew (((w8.setCell ⟨w.heap.size, 0, none⟩ (.slice (some ⟨b8, o8, none⟩) p c8)).setCell ⟨w.heap.size, 1, none⟩ (.int .i64 (r : Int))).alloc (.cells #[.slice (some ⟨b8, o8, none⟩) p c8, .int .i64 (r : Int)] 31))) (wX.drewN nY) := below_drewN HBX.out nY
            have r1 := (Lies.drew L9.out).below hbq L9.out.lt
            have r2 := (SeqS.drew Q9.out).later hbq
            have s9 : SlAt (World.drew (((w8.setCell ⟨w.heap.size, 0, none⟩ (.slice (some ⟨b8, o8, none⟩) p c8)).setCell ⟨w.heap.size, 1, none⟩ (.int .i64 (r : Int))).alloc (.cells #[.slice (some ⟨b8, o8, none⟩) p c8, .int .i64 (r : Int)] 31))) g T pre post r L1 := S9.out
            have r3 := s9.later hbq
            have r4 := kept_below_ (K9.out.trans (Kept.drew (oneRow g) _) (fun _ _ h => h)) hbq
            clear yX HSM HBX hbq s9 z0
            generalize wX.drewN nY = wY at *
            go_wp2
            go_roundw
            case rel => exact ⟨k + 1, L1, ⟨b8, o8, none⟩, c8, by omega, by go_num, HPL.out, r1, r2, HA8.out, r3, r4⟩
            case measure => simp [intOf]; omega
      · have e5 : decide (tI < 4611686018427387904) = false := by simpa using tb
        have hf : freeB L x.t = false := decide_eq_false (fun h => by omega)
        have HF := Lib.hid hf
        clear hf htI hd2
        go_wp2
        go_quiet (fail)
        have HP2 : Hid (PlayS w ((wr.alloc (.cells #[.int .i64 x.k, .int .i64 x.j, .int .u64 tI, .int .u64 (x.v : Int)] 39)).drewN nq) w.heap.size g wr.heap.size T pre post r L ⟨bA, oA, none⟩ c p x) := HPS.out.drewN nq
        generalize (wr.alloc (.cells #[.int .i64 x.k, .int .i64 x.j, .int .u64 tI, .int .u64 (x.v : Int)] 39)).drewN nq = w2 at *
        clear HPS d0 d1 HQ0 x0 x1 x2 x3
        obtain ⟨c0, c1, c2, c3, c4, c5⟩ := HP2.out.cells
        rw [HT.out] at c2
        have hget := ref12Get (.agg #[.slice (some ⟨bA, oA, none⟩) p c, .int .i64 (r : Int)]) r x.t x.j L w2 ⟨some ⟨bA, oA, none⟩, c, by rw [HLL.out], by rw [HLL.out]; exact HP2.out.2.1⟩ HSO.out O5.out
        rw [HT.out] at hget
        obtain ⟨E, hE⟩ : ∃ E, getE r L x.j x.t = E := ⟨_, rfl⟩
        rw [hE] at hget
        have HE := Lib.hid hE
        have HGET := Lib.hid hget
        clear hget hE
        go_wp2_with fail
        refine HGET.out.mono ?_
        rintro e w3 ⟨v3, rfl, ⟨A3, c3', rfl, _⟩, hb3, _⟩
        have hp3 := HP2.out.later hb3
        have hp4 := hp3.later ((Below.refl w3.heap.size w3).alloc (Nat.le_refl _) (.cells #[.slice A3 (getS r L x.j x.t).length c3', .int .i64 (r : Int)] 31))
        have HP4 := Lib.hid hp4
        clear c0 c1 c2 c3 c4 c5
        obtain ⟨c0, c1, c2, c3, c4, c5⟩ := hp3.cells
        rw [HT.out] at c2
        have hqw : wr.heap.size < w3.heap.size := hp3.2.2.2.2.lt
        clear hp4 HP2 HGET hb3 hp3
        go_wp2_with fail
        generalize w3.alloc (.cells #[.slice A3 (getS r L x.j x.t).length c3', .int .i64 (r : Int)] 31) = w4 at *
        clear c0 c1 c2 c3 c4 c5 hqw
        have hfree := slotsIsFree x.t HP4.out.2.2.1 ho O5.out
        rw [HT.out, HF.out] at hfree
        have HFREE := Lib.hid hfree
        clear hfree
        refine HFREE.out.mono ?_
        rintro e w5 ⟨rfl, nd, hw5⟩
        have hp5 : PlayS w w5 w.heap.size g wr.heap.size T pre post r L ⟨bA, oA, none⟩ c p x := by rw [hw5]; exact HP4.out.drewN nd
        obtain ⟨c0, c1, c2, c3, c4, c5⟩ := hp5.cells
        rw [HT.out] at c2
        have hhas := slotsHas x.j x.t hp5.2.2.1 ho O5.out
        rw [HT.out, HE.out] at hhas
        have e7 : ((E : Int) == 0) = decide (E = 0) := by rw [Bool.eq_iff_iff]; simp
        have HHAS := Lib.hid hhas
        have HP5 := Lib.hid hp5
        clear hhas hp5 hw5 HP4 HFREE
        generalize decide (E = 0) = dB at *
        go_wp2_with fail
        refine HHAS.out.mono ?_
        rintro e w6 ⟨rfl, hb6⟩
        have hp6 := HP5.out.later hb6
        clear c0 c1 c2 c3 c4 c5 HP5 HHAS hb6
        obtain ⟨c0, c1, c2, c3, c4, c5⟩ := hp6.cells
        rw [HT.out] at c2
        have HP6 := Lib.hid hp6
        clear hp6
        by_cases kk : x.k.tmod 2 = 0
        · have e8 : (x.k.tmod 2 == 0) = true := by rw [beq_iff_eq]; exact kk
          clear kk
          have hput := slotsPut x.t x.v HP6.out.2.2.1 ho O5.out o6
          rw [HT.out] at hput
          have HPUT := Lib.hid hput
          clear hput
          go_wp2_with fail
          refine HPUT.out.mono ?_
          rintro e w7 ⟨rfl, hs7, hk7⟩
          obtain ⟨l7, q7, hs7, hk7, lo7⟩ := HP6.out.own hk7 hs7 hwg hqg HA.out
          have hbs7 : w.heap.size ≤ w7.heap.size := hk7.size
          have hrp := ref12PutF (t := x.t) (v := x.v) (B := g + 1) q7 HLL.out HSO.out O5.out o6 HA.out (by omega)
          rw [HT.out] at hrp
          have HRP := Lib.hid hrp
          have hpl : (putS r L x.t x.v).length = p := by rw [putS_length]; exact HLL.out
          have hpo := putS_ok HSO.out x.t x.v (by omega)
          generalize putE L x.t = E1 at *
          generalize putS r L x.t x.v = L1 at *
          have HPO := Lib.hid hpo
          have HPL := Lib.hid hpl
          clear c0 c1 c2 c3 c4 c5
          have c2 := (lo7.cell 2).trans (show _ = some (Value.int .u64 tI) from by rw [← HT.out]; rfl)
          have c3 := (lo7.cell 3).trans (show _ = some (Value.int .u64 (x.v : Int)) from rfl)
          have c4 := (l7.cell 0).trans (show _ = some (Value.slice (some ⟨bA, oA, none⟩) p c) from rfl)
          have c5 := (l7.cell 1).trans (show _ = some (Value.int .i64 (r : Int)) from rfl)
          have L7 := Lib.hid l7
          have HS7 := Lib.hid hs7
          have HK7 := Lib.hid hk7
          clear hpo hpl hrp l7 q7 hs7 hk7 lo7 HPUT HP6
          go_wp2_with fail
          refine HRP.out.mono ?_
          rintro e w8 ⟨b8, o8, c8, rfl, q8, hA8, hb8⟩
          have l8 := L7.out.below hb8 L7.out.lt
          have d4 := (l8.cell 0).trans (show _ = some (Value.slice (some ⟨bA, oA, none⟩) p c) from rfl)
          have d5 := (l8.cell 1).trans (show _ = some (Value.int .i64 (r : Int)) from rfl)
          have f4 := l8.free 0
          have f5 := l8.free 1
          have hw8 := l8.lt
          obtain ⟨l9, q9, hs9, hkz⟩ := next_laid (ob := .cells #[.slice (some ⟨b8, o8, none⟩) p c8, .int .i64 (r : Int)] 31) l8 q8 (by rw [HPL.out]; exact hp1) (HS7.out.later hb8) (kept_below_ HK7.out hb8) hwg (Nat.le_refl _) HPL.out
          have HA8 := Lib.hid hA8
          clear c2 c3 c4 c5 l8 q8 hb8 L7 HS7 HK7 hA8
          have hll9 := HPL.out
          have HALL := Lib.hid (all_same (w := World.drew (((w8.setCell ⟨w.heap.size, 0, none⟩ (.slice (some ⟨b8, o8, none⟩) p c8)).setCell ⟨w.heap.size, 1, none⟩ (.int .i64 (r : Int))).alloc (.cells #[.slice (some ⟨b8, o8, none⟩) p c8, .int .i64 (r : Int)] 31))) o (some ⟨b8, o8, none⟩) c8 hs9 ho (by rw [hll9]; exact l9) (by rw [hll9]; exact q9))
          have L9 := Lib.hid l9
          have Q9 := Lib.hid q9
          have S9 := Lib.hid hs9
          have K9 := Lib.hid hkz
          have z0 := (l9.cell 0).trans (show _ = some (Value.slice (some ⟨b8, o8, none⟩) p c8) from rfl)
          rw [hll9] at HALL
          clear hkz l9 q9 hs9 hll9
          go_wp2_with fail
          go_region_with (first | (go_at_call 16; refine HALL.out.mono ?_; rintro e wX ⟨AX, cX, rfl, yX, HSM, HBX⟩) | (go_at_call 21; refine (HSM.out _ rfl).mono ?_; rintro e wY ⟨rfl, nY, rfl⟩))
          all_goals
            have hbq : Below (World.drew (((w8.setCell ⟨w.heap.size, 0, none⟩ (.slice (some ⟨b8, o8, none⟩) p c8)).setCell ⟨w.heap.size, 1, none⟩ (.int .i64 (r : Int))).alloc (.cells #[.slice (some ⟨b8, o8, none⟩) p c8, .int .i64 (r : Int)] 31))).heap.size (World.drew (((w8.setCell ⟨w.heap.size, 0, none⟩ (.slice (some ⟨b8, o8, none⟩) p c8)).setCell ⟨w.heap.size, 1, none⟩ (.int .i64 (r : Int))).alloc (.cells #[.slice (some ⟨b8, o8, none⟩) p c8, .int .i64 (r : Int)] 31))) (wX.drewN nY) := below_drewN HBX.out nY
            have r1 := (Lies.drew L9.out).below hbq L9.out.lt
            have r2 := (SeqS.drew Q9.out).later hbq
            have s9 : SlAt (World.drew (((w8.setCell ⟨w.heap.size, 0, none⟩ (.slice (some ⟨b8, o8, none⟩) p c8)).setCell ⟨w.heap.size, 1, none⟩ (.int .i64 (r : Int))).alloc (.cells #[.slice (some ⟨b8, o8, none⟩) p c8, .int .i64 (r : Int)] 31))) g T pre post r L1 := S9.out
            have r3 := s9.later hbq
            have r4 := kept_below_ (K9.out.trans (Kept.drew (oneRow g) _) (fun _ _ h => h)) hbq
            clear yX HSM HBX hbq s9 z0
            generalize wX.drewN nY = wY at *
            go_wp2
            go_roundw
            case rel => exact ⟨k + 1, L1, ⟨b8, o8, none⟩, c8, by omega, by go_num, HPL.out, r1, r2, HA8.out, r3, r4⟩
            case measure => simp [intOf]; omega
        · have e8 : (x.k.tmod 2 == 0) = false := by rw [beq_eq_false_iff_ne]; exact kk
          clear kk
          have hput := slotsGet x.j x.t HP6.out.2.2.1 ho O5.out
          rw [HT.out, HE.out] at hput
          have HPUT := Lib.hid hput
          clear hput
          go_wp2_with fail
          refine HPUT.out.mono ?_
          rintro e w7 ⟨rfl, hs7, hk7⟩
          obtain ⟨l7, q7, hs7, hk7, lo7⟩ := HP6.out.own hk7 hs7 hwg hqg HA.out
          have hbs7 : w.heap.size ≤ w7.heap.size := hk7.size
          have hrp := ref12GetF (t := x.t) (j := x.j) (B := g + 1) q7 HLL.out HSO.out O5.out HA.out (by omega)
          rw [HT.out, HE.out] at hrp
          have HRP := Lib.hid hrp
          have hpl : (getS r L x.j x.t).length = p := by rw [getS_length]; exact HLL.out
          have hpo := getS_ok HSO.out x.j x.t
          generalize getV r L x.j x.t = V1 at *
          generalize getS r L x.j x.t = L1 at *
          have HPO := Lib.hid hpo
          have HPL := Lib.hid hpl
          clear c0 c1 c2 c3 c4 c5
          have c1 := (lo7.cell 1).trans (show _ = some (Value.int .i64 x.j) from rfl)
          have c2 := (lo7.cell 2).trans (show _ = some (Value.int .u64 tI) from by rw [← HT.out]; rfl)
          have c4 := (l7.cell 0).trans (show _ = some (Value.slice (some ⟨bA, oA, none⟩) p c) from rfl)
          have c5 := (l7.cell 1).trans (show _ = some (Value.int .i64 (r : Int)) from rfl)
          have L7 := Lib.hid l7
          have HS7 := Lib.hid hs7
          have HK7 := Lib.hid hk7
          clear hpo hpl hrp l7 q7 hs7 hk7 lo7 HPUT HP6
          go_wp2_with fail
          refine HRP.out.mono ?_
          rintro e w8 ⟨b8, o8, c8, rfl, q8, hA8, hb8⟩
          have l8 := L7.out.below hb8 L7.out.lt
          have d4 := (l8.cell 0).trans (show _ = some (Value.slice (some ⟨bA, oA, none⟩) p c) from rfl)
          have d5 := (l8.cell 1).trans (show _ = some (Value.int .i64 (r : Int)) from rfl)
          have f4 := l8.free 0
          have f5 := l8.free 1
          have hw8 := l8.lt
          obtain ⟨l9, q9, hs9, hkz⟩ := next_laid (ob := .cells #[.slice (some ⟨b8, o8, none⟩) p c8, .int .i64 (r : Int)] 31) l8 q8 (by rw [HPL.out]; exact hp1) (HS7.out.later hb8) (kept_below_ HK7.out hb8) hwg (Nat.le_refl _) HPL.out
          have HA8 := Lib.hid hA8
          clear c1 c2 c4 c5 l8 q8 hb8 L7 HS7 HK7 hA8
          have hll9 := HPL.out
          have HALL := Lib.hid (all_same (w := World.drew (((w8.setCell ⟨w.heap.size, 0, none⟩ (.slice (some ⟨b8, o8, none⟩) p c8)).setCell ⟨w.heap.size, 1, none⟩ (.int .i64 (r : Int))).alloc (.cells #[.slice (some ⟨b8, o8, none⟩) p c8, .int .i64 (r : Int)] 31))) o (some ⟨b8, o8, none⟩) c8 hs9 ho (by rw [hll9]; exact l9) (by rw [hll9]; exact q9))
          have L9 := Lib.hid l9
          have Q9 := Lib.hid q9
          have S9 := Lib.hid hs9
          have K9 := Lib.hid hkz
          have z0 := (l9.cell 0).trans (show _ = some (Value.slice (some ⟨b8, o8, none⟩) p c8) from rfl)
          rw [hll9] at HALL
          clear hkz l9 q9 hs9 hll9
          go_wp2_with fail
          go_region_with (first | (go_at_call 16; refine HALL.out.mono ?_; rintro e wX ⟨AX, cX, rfl, yX, HSM, HBX⟩) | (go_at_call 21; refine (HSM.out _ rfl).mono ?_; rintro e wY ⟨rfl, nY, rfl⟩))
          all_goals
            have hbq : Below (World.drew (((w8.setCell ⟨w.heap.size, 0, none⟩ (.slice (some ⟨b8, o8, none⟩) p c8)).setCell ⟨w.heap.size, 1, none⟩ (.int .i64 (r : Int))).alloc (.cells #[.slice (some ⟨b8, o8, none⟩) p c8, .int .i64 (r : Int)] 31))).heap.size (World.drew (((w8.setCell ⟨w.heap.size, 0, none⟩ (.slice (some ⟨b8, o8, none⟩) p c8)).setCell ⟨w.heap.size, 1, none⟩ (.int .i64 (r : Int))).alloc (.cells #[.slice (some ⟨b8, o8, none⟩) p c8, .int .i64 (r : Int)] 31))) (wX.drewN nY) := below_drewN HBX.out nY
            have r1 := (Lies.drew L9.out).below hbq L9.out.lt
            have r2 := (SeqS.drew Q9.out).later hbq
            have s9 : SlAt (World.drew (((w8.setCell ⟨w.heap.size, 0, none⟩ (.slice (some ⟨b8, o8, none⟩) p c8)).setCell ⟨w.heap.size, 1, none⟩ (.int .i64 (r : Int))).alloc (.cells #[.slice (some ⟨b8, o8, none⟩) p c8, .int .i64 (r : Int)] 31))) g T pre post r L1 := S9.out
            have r3 := s9.later hbq
            have r4 := kept_below_ (K9.out.trans (Kept.drew (oneRow g) _) (fun _ _ h => h)) hbq
            clear yX HSM HBX hbq s9 z0
            generalize wX.drewN nY = wY at *
            go_wp2
            go_roundw
            case rel => exact ⟨k + 1, L1, ⟨b8, o8, none⟩, c8, by omega, by go_num, HPL.out, r1, r2, HA8.out, r3, r4⟩
            case measure => simp [intOf]; omega
    · obtain rfl : k = ops.length := by omega
      clear lb hq hs
      go_wp2
      go_ret
      exact ⟨rfl, hkk⟩
end Go.Proofs.Ytoimipcnllmneaa
