/-
  A slice that may begin within its block, and what is appended to it.
-/
import Derived.Test.YtflaaogopcgdaaaKit
namespace Go.Proofs.Ytflaaogopcgdaaa
open Go.RowKit
set_option linter.unusedVariables false
set_option linter.unusedSimpArgs false
def OwnsOff (w : World) (base : Nat) (e : TypeId) (v : Value) (n : Nat) (xs : List Value) : Prop :=
  xs.length = n ∧ ((v = .slice none 0 0 ∧ n = 0) ∨
   ∃ g off cap cur, v = .slice (some ⟨g, off, none⟩) n cap ∧ base ≤ g ∧ w.heap[g]? = some (.cells cur e (0, 0)) ∧ n ≤ cap ∧ cap ≤ maxLen ∧ off + cap ≤ cur.size ∧ (cur.toList.drop off).take n = xs)
section
variable {w w' : World} {base : Nat} {e : TypeId} {v : Value} {n : Nat} {xs : List Value}
theorem OwnsOff.of_owns (h : w.ownsRow base e 1 v n xs) : OwnsOff w base e v n xs := by
  refine ⟨by have := h.1; omega, ?_⟩
  rcases h.2 with h0 | ⟨g, cap, cur, rfl, h1, h2, h3, h4, h5, h6⟩
  · exact .inl h0
  · exact .inr ⟨g, 0, cap, cur, rfl, h1, h2, h3, h4, by omega, by rw [List.drop_zero, ← h6, Nat.mul_one]⟩
theorem OwnsOff.nil (w : World) (base : Nat) (e : TypeId) : OwnsOff w base e (.slice none 0 0) 0 [] := ⟨rfl, .inl ⟨rfl, rfl⟩⟩
theorem OwnsOff.seq (h : OwnsOff w base e v n xs) : SeqAt w v xs := by
  obtain ⟨rfl, h⟩ := h
  rcases h with ⟨rfl, h0⟩ | ⟨g, off, cap, cur, rfl, h1, h2, h3, h4, h5, h6⟩
  · have : xs = [] := List.eq_nil_of_length_eq_zero h0
    subst this
    exact ⟨none, 0, rfl, by simp, by unfold maxLen; simp, fun k u hu => by simp at hu⟩
  · refine ⟨_, cap, rfl, h3, h4, fun k u hu => ⟨g, off, rfl, ?_⟩⟩
    have hk : k < xs.length := (List.getElem?_eq_some_iff.1 hu).1
    rw [← h6, List.getElem?_take, if_pos hk, List.getElem?_drop, Array.getElem?_toList] at hu
    unfold World.cell?
    simp only [h2]
    exact hu
theorem OwnsOff.lt (h : OwnsOff w base e v n xs) : ∀ k, v.ownBlock = some k → base ≤ k ∧ k < w.heap.size := by
  intro k hk
  rcases h.2 with ⟨rfl, _⟩ | ⟨g, off, cap, cur, rfl, hb, hg, _⟩
  · simp [Value.ownBlock] at hk
  · simp [Value.ownBlock] at hk
    subst hk
    exact ⟨hb, (Array.getElem?_eq_some_iff.1 hg).1⟩
theorem OwnsOff.kept {S : Nat → Prop} (h : OwnsOff w base e v n xs) (k : Kept S w w') (hn : ∀ r, v.ownBlock = some r → ¬ S r) : OwnsOff w' base e v n xs := by
  refine ⟨h.1, ?_⟩
  rcases h.2 with h0 | ⟨g, off, cap, cur, rfl, h1, h2, h3⟩
  · exact .inl h0
  · exact .inr ⟨g, off, cap, cur, rfl, h1, (k.at_ g (Array.getElem?_eq_some_iff.1 h2).1 (hn g rfl)).trans h2, h3⟩
theorem OwnsOff.below (h : OwnsOff w base e v n xs) (k : Below w.heap.size w w') : OwnsOff w' base e v n xs := h.kept (Kept.of_below k) (fun _ _ f => f)
theorem OwnsOff.drewN (h : OwnsOff w base e v n xs) (m : Nat) : OwnsOff (w.drewN m) base e v n xs := h
/-- A slice of such a one, from place k on. -/
theorem OwnsOff.cut {A : Option Addr} {c : Nat} (h : OwnsOff w base e (.slice A n c) n xs) (k : Nat) (hk : k ≤ n) :
    OwnsOff w base e (.slice (if c = k then A else A.map (fun x => x.add k)) (n - k) (c - k)) (n - k) (xs.drop k) := by
  refine ⟨by rw [List.length_drop, h.1], ?_⟩
  rcases h.2 with ⟨he, hn⟩ | ⟨g, off, cap, cur, he, h1, h2, h3, h4, h5, h6⟩
  · simp only [Value.slice.injEq] at he
    obtain ⟨rfl, _, rfl⟩ := he
    subst hn
    obtain rfl : k = 0 := by omega
    exact .inl ⟨by simp, rfl⟩
  · simp only [Value.slice.injEq, true_and] at he
    obtain ⟨rfl, rfl⟩ := he
    by_cases hc : c = k
    · rw [if_pos hc]
      refine .inr ⟨g, off, c - k, cur, rfl, h1, h2, by omega, by omega, by omega, ?_⟩
      rw [show n - k = 0 by omega, List.take_zero, ← h6, List.drop_eq_nil_of_le]
      rw [List.length_take]; omega
    · rw [if_neg hc]
      refine .inr ⟨g, off + k, c - k, cur, ?_, h1, h2, by omega, by omega, by omega, ?_⟩
      · simp only [Option.map_some]; rw [addr_plus]
      · rw [← h6, List.drop_take, List.drop_drop]
theorem OwnsOff.none_ {A : Option Addr} {c : Nat} (h : OwnsOff w base e (.slice A n c) n xs) (hA : A = none) : n = 0 ∧ c = 0 := by
  rcases h.2 with ⟨he, hn⟩ | ⟨g, off, cap, cur, he, _⟩
  · simp only [Value.slice.injEq] at he; exact ⟨hn, he.2.2⟩
  · subst hA; simp at he
theorem OwnsOff.form (h : OwnsOff w base e v n xs) : ∃ A c, v = .slice A n c ∧ n ≤ c ∧ c ≤ maxLen := by
  rcases h.2 with ⟨rfl, rfl⟩ | ⟨g, off, cap, cur, rfl, h1, h2, h3, h4, h5⟩
  · exact ⟨_, _, rfl, by simp, by unfold maxLen; simp⟩
  · exact ⟨_, _, rfl, h3, h4⟩
end
theorem kept_row {w : World} {g : Nat} (cs : Array Value) : Kept (oneRow g) w (w.setRow g cs) :=
  ⟨rfl, rfl, rfl, by unfold World.setRow; simp, fun k _ hk => setRow_other w g k cs (fun e => hk e)⟩
theorem run_append_off {P : Program} (w : World) (base : Nat) (t ty e : TypeId) (i : TypeInfo) (z : Value) (bytes : Nat) (ht : P.underlying t = some (.slice e)) (hi : P.info? e = some i) (hz : i.zero = some z)
    (hsize : i.size = 1) (hby : i.bytes = bytes) (hzs : z.cells.size = 1) (v : Value) (n : Nat) (xs : List Value) (hown : OwnsOff w base e v n xs)
    (a : Addr) (c : Nat) (x : Value) (hx : w.cell? a = some x) (h1 : x.oneCell' = true) (h63 : n + 1 ≤ maxLen) (hbytes : (n + 1) * bytes ≤ 140737488355328) (hbase : base ≤ w.heap.size) :
    ∃ v' w', (Builtin.append_ #[t, t] ty #[v, .slice (some a) 1 c]).run P w = .ok v' w' ∧ OwnsOff w' base e v' (n + 1) (xs ++ [x]) ∧ Kept (fun k => v.ownBlock = some k) w w' ∧
      (v'.ownBlock = v.ownBlock ∨ ∃ k, v'.ownBlock = some k ∧ w.heap.size ≤ k) := by
  subst hby
  have hnews : ∀ j u, [x][j]? = some u → w.cell? (a.add j) = some u := fun j u hj => by
    match j, hj with
    | 0, hj =>
      simp at hj
      subst hj
      obtain ⟨b, o, p⟩ := a
      cases p <;> simpa [Addr.add] using hx
  have h1' : ∀ u ∈ [x], u.oneCell' = true := fun u hu => by simp at hu; subst hu; exact h1
  rcases hown.2 with ⟨rfl, rfl⟩ | ⟨g, off, cap, cur, rfl, hbg, hg, hnc, hcm, hcs, htake⟩
  · obtain ⟨v', w', k1, k2, k3, _⟩ := run_append_own (P := P) w base t ty e i z 1 i.bytes ht hi hz hsize rfl hzs (by decide) (.slice none 0 0) 0 [] (World.ownsRow_nil w base e 1) a 1 c [x] rfl hnews h1' h63 hbytes hbase
    have hxs : xs = [] := List.eq_nil_of_length_eq_zero hown.1
    subst hxs
    refine ⟨v', w', k1, .of_owns k2, (Kept.of_grown k3).mono (fun _ _ h => h), .inr ?_⟩
    rcases k2.2 with ⟨_, h0⟩ | ⟨g, cap, cur, rfl, _, hg, _⟩
    · omega
    · refine ⟨g, rfl, ?_⟩
      have hr := run_append_nil (P := P) w t ty e i z ht hi hz a 1 c [x] (by simp [hsize]) hnews (by omega) (by omega) (by omega)
      rw [k1] at hr
      injection hr with e1 e2
      simp only [Value.slice.injEq, Option.some.injEq, Addr.mk.injEq] at e1
      omega
  · have hlo : xs.length = n := hown.1
    by_cases hroom : n + 1 ≤ cap
    · have hf := run_firstCells_some (P := P) w 1 1 a 1 c [x] rfl hnews
      have hst := run_storeCells_at P g (off + n) e [x] 0 cur w hg (by simp; omega) h1'
      simp only [Nat.add_zero] at hst
      have hadd : (⟨g, off, none⟩ : Addr).add n = ⟨g, off + n, none⟩ := by unfold Addr.add; split <;> simp_all
      refine ⟨.slice (some ⟨g, off, none⟩) (n + 1) cap, w.setRow g (cur.toList.take (off + n) ++ [x] ++ cur.toList.drop (off + n + [x].length)).toArray, by simp [Builtin.append_, run_underlying ht, sizeOf, typeInfo, hi, Builtin.lenOf, hroom, hf, hsize, hadd, hst], ⟨by rw [List.length_append, hlo]; rfl, .inr ⟨g, off, cap, _, rfl, hbg, setRow_heap w g cur _ e _ hg, hroom, hcm, ?_, ?_⟩⟩,
        (kept_row _).mono (fun k _ (h : k = g) => by rw [h]; rfl), .inl rfl⟩
      · simp only [List.size_toArray, List.length_append, List.length_take, List.length_drop, Array.length_toList, List.length_cons, List.length_nil]
        omega
      · simp only [List.append_assoc]
        have hcl : n + off ≤ cur.toList.length := by rw [Array.length_toList]; omega
        rw [List.drop_append_of_le_length (by rw [List.length_take]; omega), List.drop_take, show off + n - off = n by omega, htake, ← List.append_assoc]
        rw [List.take_append_of_le_length (by rw [List.length_append, hlo]; simp), List.take_of_length_le (by rw [List.length_append, hlo]; simp)]
    · have holds : ∀ j u, xs[j]? = some u → w.cell? ((⟨g, off, none⟩ : Addr).add j) = some u := fun j u hj => by
        obtain ⟨A, c', e', _, _, hh⟩ := hown.seq
        simp only [Value.slice.injEq] at e'
        obtain ⟨rfl, _⟩ := e'
        obtain ⟨b, o, e2, hc⟩ := hh j u hj
        simp only [Option.some.injEq, Addr.mk.injEq, and_true] at e2
        obtain ⟨rfl, rfl⟩ := e2
        rw [addr_plus]; exact hc
      have hr := run_append_grow (P := P) w t ty e i z ht hi hz ⟨g, off, none⟩ n cap xs (by rw [hsize, hlo, Nat.mul_one]) holds a 1 c [x] (by simp [hsize]) hnews (by omega) (by unfold maxLen at h63; omega) (growslice_fits (by omega) hbytes)
      have hge := grownCap_ge w (n + 1) cap e
      have hcm2 : grownCap w (n + 1) cap e ≤ maxLen := grownCap_le_maxLen w (n + 1) cap e h63
      refine ⟨_, _, hr, ⟨by rw [List.length_append, hlo]; rfl, .inr ⟨w.heap.size, 0, _, _, rfl, hbase, heap_alloc_new w.drew _, hge, hcm2, ?_, ?_⟩⟩, ?_, .inr ⟨_, rfl, Nat.le_refl _⟩⟩
      · simp only [Array.size_append, List.size_toArray, size_zeroCells, hzs, hlo]
        simp; omega
      · simp only [Array.toList_append, List.drop_zero]
        rw [List.take_append_of_le_length (by simp [hlo]), List.take_of_length_le (by simp [hlo])]
      · exact ((Kept.drewN _ w 1).trans (Kept.alloc (fun k => (Value.slice (some ⟨g, off, none⟩) n cap).ownBlock = some k) _ _) (fun _ _ h => h))
theorem append_off {P : Program} {ops : Array Oper} {rest : List Oper} {o : Oper} {a : Act} {Q : Exit → Act → World → Prop} (w : World) (x : Value)
    (hg : o.guard = none) (s y : Operand) (t : TypeId) (hop : o.op = Op.call { callee := Callee.builtin Builtin.append, args := #[s, y], argTypes := #[t, t] })
    (base : Nat) (e : TypeId) (z : Value) (bytes : Nat) (ht : P.underlying t = some (.slice e)) (hi : (P.info? e).map (fun i => (i.zero, i.size, i.bytes)) = some (some z, 1, bytes))
    (hzs : z.cells.size = 1) (hx1 : x.oneCell' = true)
    (v : Value) (n : Nat) (xs : List Value) (hs : a.eval s = v) (hown : OwnsOff w base e v n xs) (hy : a.eval y = .slice (some ⟨w.heap.size, 0, none⟩) 1 1)
    (b1 : n + 1 ≤ maxLen) (b2 : (n + 1) * bytes ≤ 140737488355328) (b3 : base ≤ w.heap.size)
    (hK : ∀ v' w', OwnsOff w' base e v' (n + 1) (xs ++ [x]) → Kept (fun k => v.ownBlock = some k) w w' → (v'.ownBlock = v.ownBlock ∨ ∃ k, v'.ownBlock = some k ∧ w.heap.size ≤ k) → wpList P ops Q rest (a.put o.dst v') w') :
    wpList P ops Q (o :: rest) a (w.alloc (.cells #[x] e)) := by
  obtain ⟨i0, hi, hz0, hz1, hz2⟩ := info_parts hi
  have hka : Kept (fun k => v.ownBlock = some k) w (w.alloc (.cells #[x] e)) := Kept.alloc _ _ _
  have hown' : OwnsOff (w.alloc (.cells #[x] e)) base e v n xs := hown.below ((Below.refl _ _).alloc (Nat.le_refl _) _)
  obtain ⟨v', w', h1, h2, h3, h4⟩ := run_append_off (P := P) (w.alloc (.cells #[x] e)) base t o.type e i0 z bytes ht hi hz0 hz1 hz2 hzs v n xs hown' ⟨w.heap.size, 0, none⟩ 1 x (by simp [World.cell?_alloc_at]) hx1 b1 b2 (by simp; omega)
  refine wpList_plain hg fun _ hK' => ?_
  unfold Oper.wp execOp
  simp only [hop, resolve, invoke, builtin, Sem.run_bind, Sem.run_pure, Result.andThen_ok, List.map_toArray, List.map_cons, List.map_nil, hs, hy, h1]
  refine hK' _ _ (hK v' w' h2 (hka.trans h3 (fun _ _ h => h)) ?_)
  rcases h4 with h4 | ⟨k, h4, h5⟩
  · exact .inl h4
  · exact .inr ⟨k, h4, by simp at h5; omega⟩
end Go.Proofs.Ytflaaogopcgdaaa
