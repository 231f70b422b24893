import Derived.Test.YtahojmioonpodaaSlref
namespace Go.Proofs.Ytahojmioonpodaa
open Go.RowKit
set_option linter.unusedVariables false
set_option linter.unusedSimpArgs false
/-- The document's places, as a value. -/
def RefSl (w : World) (v : Value) (r : Nat) (L : List Sl) : Prop := ∃ A c, v = .agg #[.slice A L.length c, .int .i64 (r : Int)] ∧ SeqS w 3 (.slice A L.length c) L.length (rowsOf slF L)
/-- .. whose places lie from block B on. -/
def RefFrom (B : Nat) (v : Value) : Prop := ∃ A n c R, v = .agg #[.slice A n c, R] ∧ ∀ b o, A = some ⟨b, o, none⟩ → B ≤ b
theorem RefFrom.some_ {B q n c : Nat} {R : Value} (h : B ≤ q) : RefFrom B (.agg #[.slice (some ⟨q, 0, none⟩) n c, R]) := ⟨_, _, _, _, rfl, fun b o e => by cases e; exact h⟩
theorem RefSl.later {w w' : World} {v : Value} {r : Nat} {L : List Sl} (h : RefSl w v r L) (hb : Below w.heap.size w w') : RefSl w' v r L := by
  obtain ⟨A, c, e, h⟩ := h
  exact ⟨A, c, e, h.later hb⟩
theorem slF_set3 (L : List Sl) (i : Nat) (x : Sl) (h : i < L.length) : (((rowsOf slF L).set (i * 3) (.int .u64 (x.s : Int))).set (i * 3 + 1) (.int .u64 (x.v : Int))).set (i * 3 + 2) (.int .i64 x.l) = rowsOf slF (L.set i x) := by
  obtain ⟨y, hy⟩ : ∃ y, L[i]? = some y := ⟨_, List.getElem?_eq_getElem h⟩
  have h1 := rowsOf_set1 (f := slF) (sz := 3) slF_length (l := L) (i := i) (x := y) (y := ⟨x.s, y.v, y.l⟩) (j := 0) (u := .int .u64 (x.s : Int)) hy (by decide) rfl
  have h2 := rowsOf_set1 (f := slF) (sz := 3) slF_length (l := L.set i ⟨x.s, y.v, y.l⟩) (i := i) (x := ⟨x.s, y.v, y.l⟩) (y := ⟨x.s, x.v, y.l⟩) (j := 1) (u := .int .u64 (x.v : Int)) (by simp [h]) (by decide) rfl
  have h3 := rowsOf_set1 (f := slF) (sz := 3) slF_length (l := (L.set i ⟨x.s, y.v, y.l⟩).set i ⟨x.s, x.v, y.l⟩) (i := i) (x := ⟨x.s, x.v, y.l⟩) (y := x) (j := 2) (u := .int .i64 x.l) (by simp [h]) (by decide) rfl
  rw [Nat.add_zero] at h1
  rw [h1, h2, h3, List.set_set, List.set_set]
theorem own_put3 {w : World} {B : Nat} {e : TypeId} {n cap r : Nat} {L : List Sl} (h : w.ownsRow B e 3 (.slice (some ⟨r, 0, none⟩) n cap) n (rowsOf slF L)) {i : Nat} (x : Sl) (hi : i < L.length) :
    (((w.setCell ⟨r, i * 3, none⟩ (.int .u64 (x.s : Int))).setCell ⟨r, i * 3 + 1, none⟩ (.int .u64 (x.v : Int))).setCell ⟨r, i * 3 + 2, none⟩ (.int .i64 x.l)).ownsRow B e 3 (.slice (some ⟨r, 0, none⟩) n cap) n (rowsOf slF (L.set i x)) := by
  have hl := rowsOf_length slF_length L
  have h1 := owned_set (k := i * 3) (u := .int .u64 (x.s : Int)) h (by omega)
  have h2 := owned_set (k := i * 3 + 1) (u := .int .u64 (x.v : Int)) h1 (by rw [List.length_set]; omega)
  have h3 := owned_set (k := i * 3 + 2) (u := .int .i64 x.l) h2 (by rw [List.length_set, List.length_set]; omega)
  rwa [slF_set3 L i x hi] at h3
theorem below_put3 {a w : World} {B r : Nat} (h : Below B a w) (hr : B ≤ r) (i j k : Nat) (u v x : Value) : Below B a (((w.setCell ⟨r, i, none⟩ u).setCell ⟨r, j, none⟩ v).setCell ⟨r, k, none⟩ x) :=
  ((h.setCell (p := ⟨r, i, none⟩) hr u).setCell (p := ⟨r, j, none⟩) hr v).setCell (p := ⟨r, k, none⟩) hr x
/-- The world with the call's own variables: the places, the new one, the result. -/
def withW (w : World) (A : Option Addr) (c r : Nat) (L : List Sl) (x : Sl) : World :=
  ((w.alloc (.cells #[.slice A L.length c, .int .i64 (r : Int)] 36)).alloc (.cells #[.int .u64 (x.s : Int), .int .u64 (x.v : Int), .int .i64 x.l] 78)).alloc (.cells #[.slice none 0 0, .int .i64 0] 36)
theorem withW_facts (w : World) (A : Option Addr) (c r : Nat) (L : List Sl) (x : Sl) : Below w.heap.size w (withW w A c r L x) ∧ (withW w A c r L x).heap.size = w.heap.size + 1 + 1 + 1 ∧
    Lies (withW w A c r L x) w.heap.size 36 #[.slice A L.length c, .int .i64 (r : Int)] ∧
    Lies (withW w A c r L x) (w.heap.size + 1) 78 #[.int .u64 (x.s : Int), .int .u64 (x.v : Int), .int .i64 x.l] ∧
    Lies (withW w A c r L x) (w.heap.size + 1 + 1) 36 #[.slice none 0 0, .int .i64 0] := by
  have z1 : (w.alloc (.cells #[.slice A L.length c, .int .i64 (r : Int)] 36)).heap.size = w.heap.size + 1 := by simp
  have z2 : ((w.alloc (.cells #[.slice A L.length c, .int .i64 (r : Int)] 36)).alloc (.cells #[.int .u64 (x.s : Int), .int .u64 (x.v : Int), .int .i64 x.l] 78)).heap.size = w.heap.size + 1 + 1 := by simp
  have l2 := (Lies.made (w.alloc (.cells #[.slice A L.length c, .int .i64 (r : Int)] 36)) 78 #[.int .u64 (x.s : Int), .int .u64 (x.v : Int), .int .i64 x.l]).alloc (.cells #[.slice none 0 0, .int .i64 0] 36)
  have l3 := Lies.made ((w.alloc (.cells #[.slice A L.length c, .int .i64 (r : Int)] 36)).alloc (.cells #[.int .u64 (x.s : Int), .int .u64 (x.v : Int), .int .i64 x.l] 78)) 36 #[.slice none 0 0, .int .i64 0]
  rw [z1] at l2
  rw [z2] at l3
  exact ⟨(((Below.refl _ _).alloc (Nat.le_refl _) _).alloc (by simp) _).alloc (by simp; omega) _, by unfold withW; simp, ((Lies.made w _ _).alloc _).alloc _, l2, l3⟩
set_option maxHeartbeats 1000000 in
set_option maxRecDepth 100000 in
theorem ref12With (v : Value) (r i : Nat) (L : List Sl) (x : Sl) (w : World) (h : RefSl w v r L) (hi : i < L.length) (hl : L.length ≤ 64) :
    Calls Try.prog 68 #[v, .int .i64 i, .agg #[.int .u64 (x.s : Int), .int .u64 (x.v : Int), .int .i64 x.l]] w fun e w' => ∃ q cap, e = .returned (.agg #[.slice (some ⟨q, 0, none⟩) L.length cap, .int .i64 (r : Int)]) ∧ w'.ownsRow w.heap.size 78 3 (.slice (some ⟨q, 0, none⟩) L.length cap) L.length (rowsOf slF (L.set i x)) ∧ Below w.heap.size w w' := by
  obtain ⟨A, c, rfl, hs⟩ := h
  obtain ⟨k1, k2, k3, k4, k5⟩ := withW_facts w A c r L x
  have hoE := owned_empty (w := withW w A c r L x) (B := (withW w A c r L x).heap.size) 78 3 (Nat.le_refl _)
  have hsE := (hs.later k1).later ((Below.refl (withW w A c r L x).heap.size (withW w A c r L x)).alloc (Nat.le_refl _) (.cells #[] 78))
  have hbE := (Below.refl (withW w A c r L x).heap.size (withW w A c r L x)).alloc (Nat.le_refl _) (.cells #[] 78)
  rw [k2] at hoE hbE
  have HOE := Lib.hid hoE
  have HSE := Lib.hid hsE
  have HBE := Lib.hid hbE
  have K1 := Lib.hid k1
  have K2 := Lib.hid k2
  have K3 := Lib.hid k3
  have K4 := Lib.hid k4
  have K5 := Lib.hid k5
  clear k1 k2 k3 k4 k5 hoE hsE hbE hs
  go_enter Try.func68, Try.ntmps68
  go_wp2_with (at_builtin; refine append_argS ((withW w A c r L x).alloc (.cells #[] 78)) 3 rfl (.tmp 7) (.tmp 9) 34 rfl (w.heap.size + 1 + 1 + 1) 78 _ 24 Try.underlying34 Try.infoSlot rfl (by omega) _ _ _ rfl HOE.out _ _ _ rfl (rowsOf slF L) HSE.out (slF_one L) (by unfold maxLen; omega) (by omega) (by have := K2.out; simp; omega) ?_)
  intro v' w5 ho hb _
  have hb5 := HBE.out.trans hb
  have hbw := K1.out.trans (hb5.mono (by omega))
  obtain ⟨q, cap, rfl, hq1, hq2, hq3, hq4⟩ := owns_openS ho (by omega)
  have l1 := K3.out.below hb5 (by omega)
  have l2 := K4.out.below hb5 (by omega)
  have l3 := K5.out.below hb5 (by omega)
  have c0 := l1.cell 0
  have c1 := l1.cell 1
  have f0 := l1.free 0
  have d0 := l2.cell 0
  have d1 := l2.cell 1
  have d2 := l2.cell 2
  have e0 := l3.cell 0
  have e1 := l3.cell 1
  simp at c0 c1 d0 d1 d2 e0 e1
  have hii : (i : Int) < (L.length : Int) := by omega
  unfold maxLen at hq4
  have m1 := l1.put 0 (.slice (some ⟨q, 0, none⟩) L.length cap)
  have ho6 := owns_kept ho (Kept.put w5 w.heap.size 0 (.slice (some ⟨q, 0, none⟩) L.length cap)) (fun r' cur hr hl (e : r' = w.heap.size) => by have := (ho.lt r' hr).1; omega)
  rw [show (#[Value.slice A L.length c, Value.int .i64 (r : Int)].setIfInBounds 0 (.slice (some ⟨q, 0, none⟩) L.length cap)) = #[Value.slice (some ⟨q, 0, none⟩) L.length cap, Value.int .i64 (r : Int)] from rfl] at m1
  obtain ⟨y, hy⟩ : ∃ y, L[i]? = some y := ⟨_, List.getElem?_eq_getElem hi⟩
  obtain ⟨bq, oq, heq, _, gq⟩ := SeqS.at_ slF_length (by decide) (SeqS.of_owns ho6) hy
  simp only [Option.some.injEq, Addr.mk.injEq, and_true] at heq
  obtain ⟨rfl, rfl⟩ := heq
  have x0 := gq 0 _ (by decide) rfl
  have x1 := gq 1 _ (by decide) rfl
  have x2 := gq 2 _ (by decide) rfl
  have y0 := ho6.frozenAt (i * 3)
  have y1 := ho6.frozenAt (i * 3 + 1)
  have y2 := ho6.frozenAt (i * 3 + 2)
  rw [Nat.zero_add] at x0 x1 x2
  rw [Nat.add_zero] at x0
  have n1 := ((m1.far (p := ⟨q, i * 3, none⟩) (show w.heap.size ≠ q by omega) (.int .u64 (x.s : Int))).far (p := ⟨q, i * 3 + 1, none⟩) (show w.heap.size ≠ q by omega) (.int .u64 (x.v : Int))).far (p := ⟨q, i * 3 + 2, none⟩) (show w.heap.size ≠ q by omega) (.int .i64 x.l)
  have n3 := (((l3.far (p := ⟨w.heap.size, 0, none⟩) (show w.heap.size + 1 + 1 ≠ w.heap.size by omega) (.slice (some ⟨q, 0, none⟩) L.length cap)).far (p := ⟨q, i * 3, none⟩) (show w.heap.size + 1 + 1 ≠ q by omega) (.int .u64 (x.s : Int))).far (p := ⟨q, i * 3 + 1, none⟩) (show w.heap.size + 1 + 1 ≠ q by omega) (.int .u64 (x.v : Int))).far (p := ⟨q, i * 3 + 2, none⟩) (show w.heap.size + 1 + 1 ≠ q by omega) (.int .i64 x.l)
  have hop := own_put3 ho6 x hi
  have hbp := below_put3 (hbw.setCell (p := ⟨w.heap.size, 0, none⟩) (Nat.le_refl _) (.slice (some ⟨q, 0, none⟩) L.length cap)) (show w.heap.size ≤ q by omega) (i * 3) (i * 3 + 1) (i * 3 + 2) (.int .u64 (x.s : Int)) (.int .u64 (x.v : Int)) (.int .i64 x.l)
  have z0 := (n1.cell 0).trans (show _ = some (Value.slice (some ⟨q, 0, none⟩) L.length cap) from rfl)
  have z1 := (n1.cell 1).trans (show _ = some (Value.int .i64 (r : Int)) from rfl)
  have t0 := (n3.cell 0).trans (show _ = some (Value.slice none 0 0) from rfl)
  have t1 := (n3.cell 1).trans (show _ = some (Value.int .i64 0) from rfl)
  have s0 := n3.free 0
  have s1 := n3.free 1
  have v1 := (n3.put 0 (.slice (some ⟨q, 0, none⟩) L.length cap)).put 1 (.int .i64 (r : Int))
  have hoq := owns_kept (owns_kept hop (Kept.put _ (w.heap.size + 1 + 1) 0 (.slice (some ⟨q, 0, none⟩) L.length cap)) (fun r' cur hr hl (e : r' = w.heap.size + 1 + 1) => by have := (hop.lt r' hr).1; omega)) (Kept.put _ (w.heap.size + 1 + 1) 1 (.int .i64 (r : Int))) (fun r' cur hr hl (e : r' = w.heap.size + 1 + 1) => by have := (hop.lt r' hr).1; omega)
  have hbq := (hbp.setCell (p := ⟨w.heap.size + 1 + 1, 0, none⟩) (show w.heap.size ≤ w.heap.size + 1 + 1 by omega) (.slice (some ⟨q, 0, none⟩) L.length cap)).setCell (p := ⟨w.heap.size + 1 + 1, 1, none⟩) (show w.heap.size ≤ w.heap.size + 1 + 1 by omega) (.int .i64 (r : Int))
  have HOQ := Lib.hid hoq
  have HBQ := Lib.hid hbq
  have V1 := Lib.hid v1
  clear n1 n3 hop hbp m1 ho6 ho hb hb5 hbw hoq hbq v1 l1 l2 l3 gq HOE HSE HBE K1 K2 K3 K4 K5
  go_wp2
  have q0 := (V1.out.cell 0).trans (show _ = some (Value.slice (some ⟨q, 0, none⟩) L.length cap) from rfl)
  have q1 := (V1.out.cell 1).trans (show _ = some (Value.int .i64 (r : Int)) from rfl)
  refine bodyPost_ret (v := .agg #[.slice (some ⟨q, 0, none⟩) L.length cap, .int .i64 (r : Int)]) (by simp [results, Try.results68, go_sem, q0, q1]) rfl ?_
  exact ⟨q, cap, rfl, owns_mono HOQ.out (by omega), HBQ.out⟩
end Go.Proofs.Ytahojmioonpodaa
