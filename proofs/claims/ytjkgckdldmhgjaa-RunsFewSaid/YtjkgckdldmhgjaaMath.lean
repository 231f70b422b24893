import Derived.Test.YtjkgckdldmhgjaaRefread4
namespace Go.Proofs.Ytjkgckdldmhgjaa
open Go.RowKit
set_option linter.unusedVariables false
set_option linter.unusedSimpArgs false
def okFrom : List (Nat × Nat) → List (Nat × Nat) → Prop
  | _, [] => True
  | bef, p :: rest => p.2 ≠ 0 ∧ lastIs bef p.1 = false ∧ okFrom (bef ++ [p]) rest
theorem lastIs_one (bef : List (Nat × Nat)) (p : Nat × Nat) (x : Nat) : lastIs (bef ++ [p]) x = decide (p.1 = x) := lastIs_snoc bef p.1 p.2 x
theorem lastIs_append (bef rs : List (Nat × Nat)) (x : Nat) (h : rs ≠ []) : lastIs (bef ++ rs) x = lastIs rs x := by
  rcases runs_cases rs with rfl | ⟨d, v, c, rfl⟩
  · exact absurd rfl h
  · rw [← List.append_assoc, lastIs_snoc, lastIs_snoc]
theorem okFrom_snoc : ∀ (rs bef : List (Nat × Nat)) (p : Nat × Nat), okFrom bef (rs ++ [p]) ↔ okFrom bef rs ∧ p.2 ≠ 0 ∧ lastIs (bef ++ rs) p.1 = false
  | [], bef, p => by simp [okFrom]
  | q :: rs, bef, p => by
    simp only [List.cons_append, okFrom]
    rw [okFrom_snoc rs (bef ++ [q]) p]
    simp [and_assoc]
theorem total_cons (p : Nat × Nat) (rs : List (Nat × Nat)) : (spreads (p :: rs)).length = p.2 + (spreads rs).length := by simp [spreads]
theorem unpackE_iff : ∀ (rs bef : List (Nat × Nat)) (room : Nat), unpackE bef rs room = 0 ↔ okFrom bef rs ∧ (spreads rs).length ≤ room
  | [], bef, room => by simp [unpackE, okFrom, spreads]
  | p :: rs, bef, room => by
    rw [unpackE, okFrom, total_cons]
    constructor
    · intro h
      by_cases hf : fitE bef p.1 p.2 room = 0
      · rw [if_pos hf] at h
        obtain ⟨h1, h2, h3⟩ := fitE_ok hf
        obtain ⟨h4, h5⟩ := (unpackE_iff rs _ _).1 h
        exact ⟨⟨h1, h2, h4⟩, by omega⟩
      · rw [if_neg hf] at h; exact absurd h hf
    · rintro ⟨⟨h1, h2, h3⟩, h4⟩
      have hf : fitE bef p.1 p.2 room = 0 := by unfold fitE; rw [if_neg h1, h2, if_neg (by decide), if_neg (by omega)]
      rw [if_pos hf]
      exact (unpackE_iff rs _ _).2 ⟨h3, by omega⟩
theorem pushRun_fresh (bef : List (Nat × Nat)) (x : Nat) (h : lastIs bef x = false) : pushRun bef x = bef ++ [(x, 1)] := by
  rcases runs_cases bef with rfl | ⟨d, v, c, rfl⟩
  · rfl
  · rw [lastIs_snoc] at h
    exact pushRun_new _ _ _ _ (by simpa using h)
theorem push_rep (bef : List (Nat × Nat)) (x k : Nat) : ∀ c, (List.replicate c x).foldl pushRun (bef ++ [(x, k)]) = bef ++ [(x, k + c)]
  | 0 => by simp
  | c + 1 => by
    rw [List.replicate_succ, List.foldl_cons, pushRun_same, push_rep bef x (k + 1) c, show k + 1 + c = k + (c + 1) by omega]
theorem push_spreads : ∀ (rs bef : List (Nat × Nat)), okFrom bef rs → (spreads rs).foldl pushRun bef = bef ++ rs
  | [], bef, _ => by simp [spreads]
  | (x, c) :: rs, bef, h => by
    obtain ⟨h1, h2, h3⟩ := h
    simp only at h1 h2
    obtain ⟨m, rfl⟩ : ∃ m, c = m + 1 := ⟨c - 1, by omega⟩
    have e : spreads ((x, m + 1) :: rs) = x :: (List.replicate m x ++ spreads rs) := by simp [spreads, List.replicate_succ]
    rw [e, List.foldl_cons, pushRun_fresh bef x h2, List.foldl_append, push_rep, push_spreads rs _ (by rw [show 1 + m = m + 1 by omega]; exact h3), show 1 + m = m + 1 by omega]
    simp
theorem packs_spreads (rs : List (Nat × Nat)) (h : okFrom [] rs) : packs (spreads rs) = rs := by
  have := push_spreads rs [] h
  simpa [packs] using this
theorem ok_push (rs : List (Nat × Nat)) (n : Nat) (h : okFrom [] rs) : okFrom [] (pushRun rs n) := by
  rcases runs_cases rs with rfl | ⟨d, v, c, rfl⟩
  · rw [pushRun_nil]; exact ⟨by simp, rfl, trivial⟩
  · by_cases e : v = n
    · subst e
      rw [pushRun_same]
      rw [okFrom_snoc] at h ⊢
      exact ⟨h.1, by simp, h.2.2⟩
    · rw [pushRun_new _ _ _ _ e, okFrom_snoc]
      refine ⟨h, by simp, ?_⟩
      rw [List.nil_append, lastIs_snoc]; simpa using e
theorem spreads_push (rs : List (Nat × Nat)) (n : Nat) : spreads (pushRun rs n) = spreads rs ++ [n] := by
  rcases runs_cases rs with rfl | ⟨d, v, c, rfl⟩
  · rfl
  · by_cases e : v = n
    · subst e
      rw [pushRun_same, spreads_append, spreads_append, spreads_one, spreads_one, List.replicate_succ', List.append_assoc]
    · rw [pushRun_new _ _ _ _ e, spreads_append, spreads_one]; rfl
theorem packs_ok (l : List Nat) : okFrom [] (packs l) := by
  suffices h : ∀ (l : List Nat) rs, okFrom [] rs → okFrom [] (l.foldl pushRun rs) from h l [] trivial
  intro l
  induction l with
  | nil => intro rs h; exact h
  | cons n l ih => intro rs h; exact ih _ (ok_push rs n h)
theorem spreads_packs (l : List Nat) : spreads (packs l) = l := by
  suffices h : ∀ (l : List Nat) rs, spreads (l.foldl pushRun rs) = spreads rs ++ l by
    have := h l []
    simpa [packs, spreads] using this
  intro l
  induction l with
  | nil => intro rs; simp
  | cons n l ih => intro rs; rw [List.foldl_cons, ih, spreads_push]; simp
theorem unpack_packs (l : List Nat) : unpErr (packs l) (l.length : Nat) = 0 ∧ unpOut (packs l) (l.length : Nat) = l := by
  have e : unpErr (packs l) (l.length : Nat) = 0 := by
    unfold unpErr
    rw [if_neg (by omega), Int.toNat_natCast, unpackE_iff]
    exact ⟨packs_ok l, by rw [spreads_packs]; exact Nat.le_refl _⟩
  refine ⟨e, ?_⟩
  unfold unpOut
  rw [if_pos e, spreads_packs]
theorem unpack_back (rs : List (Nat × Nat)) (most : Int) (h : unpErr rs most = 0) : packs (unpOut rs most) = rs := by
  unfold unpOut
  rw [if_pos h]
  unfold unpErr at h
  split at h
  · omega
  · exact packs_spreads rs ((unpackE_iff _ _ _).1 h).1
/-! ## Bytes and back -/
theorem restOf_add (s : ByteArray) (p k : Nat) : restOf s (p + k) = (restOf s p).drop k := by unfold restOf; rw [List.drop_drop]
theorem read_body : ∀ (rs bef : List (Nat × Nat)) (room p : Nat) (s : ByteArray) (r : List UInt8), okFrom bef rs → (spreads rs).length ≤ room → room < M64 → (∀ q ∈ rs, q.1 < M64) → restOf s p = bodyR rs ++ r →
    readR rs.length s p bef room = (bef ++ rs, 0, p + (bodyR rs).length)
  | [], bef, room, p, s, r, _, _, _, _, _ => by simp [readR, bodyR]
  | (x, c) :: rs, bef, room, p, s, r, ⟨h1, h2, h3⟩, ht, hr, hm, he => by
    simp only at h1 h2
    rw [total_cons] at ht
    simp only at ht
    have hx := hm (x, c) (by simp)
    simp only at hx
    have eb : bodyR ((x, c) :: rs) = enc x ++ (enc (c - 1) ++ bodyR rs) := by simp [bodyR]
    rw [eb] at he
    have r1 : rd (restOf s p) = (x, 0, (enc x).length) := by rw [he, List.append_assoc]; exact rd_enc x _ hx
    have he2 : restOf s (p + (enc x).length) = enc (c - 1) ++ (bodyR rs ++ r) := by
      rw [restOf_add, he, List.append_assoc, List.drop_left, List.append_assoc]
    have r2 : rd (restOf s (p + (enc x).length)) = (c - 1, 0, (enc (c - 1)).length) := by rw [he2]; exact rd_enc (c - 1) _ (by omega)
    have he3 : restOf s (p + (enc x).length + (enc (c - 1)).length) = bodyR rs ++ r := by rw [restOf_add, he2, List.drop_left]
    have hn : nextR s p bef room = ((x, c), 0, p + (enc x).length + (enc (c - 1)).length) := by
      unfold nextR
      rw [r1]
      simp only
      rw [r2]
      simp only [ne_eq, not_true_eq_false, if_false, h2]
      rw [if_neg (by decide), if_neg (by omega), show c - 1 + 1 = c by omega]
    rw [List.length_cons, readR, hn]
    simp only [if_true]
    rw [read_body rs (bef ++ [(x, c)]) (room - c) _ s r h3 (by omega) (by omega) (fun q hq => hm q (by simp [hq])) he3, eb]
    simp only [List.append_assoc, List.length_append, List.singleton_append, Prod.mk.injEq, true_and]
    omega
theorem read_printed (l : List Nat) (r : List UInt8) (s : ByteArray) (hs : s.data.toList = printR l ++ r) (hl : l.length < M64) (hm : ∀ n ∈ l, n < M64) :
    redE s 0 (l.length : Nat) = 0 ∧ redAt s 0 (l.length : Nat) = (printR l).length ∧ redOf s 0 (l.length : Nat) = l := by
  have h0 : restOf s 0 = enc (packs l).length ++ (bodyR (packs l) ++ r) := by unfold restOf; rw [List.drop_zero, hs, printR, List.append_assoc]
  have hpl := (packs_in l).1
  have r1 : rd (restOf s 0) = ((packs l).length, 0, (enc (packs l).length).length) := by rw [h0]; exact rd_enc _ _ (by omega)
  have h1 : restOf s (0 + (enc (packs l).length).length) = bodyR (packs l) ++ r := by rw [restOf_add, h0, List.drop_left]
  have hb := read_body (packs l) [] l.length _ s r (packs_ok l) (by rw [spreads_packs]; exact Nat.le_refl _) hl (packs_mem l hm) h1
  have e1 : redE s 0 (l.length : Nat) = 0 := by
    unfold redE
    rw [if_neg (by omega), r1]
    simp only [ne_eq, not_true_eq_false, if_false, Int.toNat_natCast]
    rw [hb]
  refine ⟨e1, ?_, ?_⟩
  · unfold redAt
    rw [if_neg (by omega), r1]
    simp only [ne_eq, not_true_eq_false, if_false, Int.toNat_natCast]
    rw [hb, printR, List.length_append, Nat.zero_add]
  · unfold redOf
    rw [if_pos e1, r1]
    simp only [Int.toNat_natCast]
    rw [hb]
    exact spreads_packs l
end Go.Proofs.Ytjkgckdldmhgjaa
