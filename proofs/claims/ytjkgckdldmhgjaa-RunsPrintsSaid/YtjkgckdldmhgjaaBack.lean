import Derived.Test.YtjkgckdldmhgjaaMath
import Derived.Test.YtjkgckdldmhgjaaRdtake
namespace Go.Proofs.Ytjkgckdldmhgjaa
open Go.RowKit
set_option linter.unusedVariables false
set_option linter.unusedSimpArgs false
theorem take_two (l : List UInt8) (a b : Nat) (x y : List UInt8) (h1 : l.take a = x) (h2 : (l.drop a).take b = y) : l.take (a + b) = x ++ y := by
  rw [List.take_add, h1, h2]
theorem nextR_bytes {s : ByteArray} {p : Nat} {bef : List (Nat × Nat)} {room : Nat} (h : (nextR s p bef room).2.1 = 0) :
    ∃ x y k, nextR s p bef room = ((x, y + 1), 0, p + k) ∧ (restOf s p).take k = enc x ++ enc y := by
  have hok := nextR_ok h
  unfold nextR at h ⊢
  have h1 := rd_take (restOf s p)
  have h2 := rd_take (restOf s (p + (rd (restOf s p)).2.2))
  by_cases e1 : (rd (restOf s p)).2.1 = 0
  · rw [if_neg (by omega)] at h
    rw [if_neg (by omega)]
    by_cases e2 : (rd (restOf s (p + (rd (restOf s p)).2.2))).2.1 = 0
    · rw [if_neg (by omega)] at h
      rw [if_neg (by omega)]
      simp only at h
      refine ⟨(rd (restOf s p)).1, (rd (restOf s (p + (rd (restOf s p)).2.2))).1, (rd (restOf s p)).2.2 + (rd (restOf s (p + (rd (restOf s p)).2.2))).2.2, ?_, ?_⟩
      · rw [h, ← Nat.add_assoc]
      · have h2 := h2 e2
        refine take_two _ _ _ _ _ (h1 e1) ?_
        rw [← h2, restOf_add]
    · rw [if_pos e2] at h; exact absurd h e2
  · rw [if_pos e1] at h; exact absurd h e1
theorem read_back : ∀ (n : Nat) (s : ByteArray) (p : Nat) (bef : List (Nat × Nat)) (room : Nat), (readR n s p bef room).2.1 = 0 →
    ∃ rs k, readR n s p bef room = (bef ++ rs, 0, p + k) ∧ rs.length = n ∧ okFrom bef rs ∧ (restOf s p).take k = bodyR rs
  | 0, s, p, bef, room, _ => ⟨[], 0, by simp [readR], rfl, trivial, by simp [bodyR]⟩
  | n + 1, s, p, bef, room, h => by
    rw [readR] at h ⊢
    by_cases hf : (nextR s p bef room).2.1 = 0
    · rw [if_pos hf] at h ⊢
      obtain ⟨h1, h2, h3, h4, h5⟩ := nextR_ok hf
      obtain ⟨x, y, k, e, ht⟩ := nextR_bytes hf
      rw [e] at h h5 ⊢
      simp only at h h5 ⊢
      obtain ⟨rs, k2, e2, hl, hok, hb⟩ := read_back n s (p + k) (bef ++ [(x, y + 1)]) (room - (y + 1)) h
      refine ⟨(x, y + 1) :: rs, k + k2, ?_, by simp [hl], ⟨by simp, h5, hok⟩, ?_⟩
      · rw [e2]; simp [Nat.add_assoc]
      · rw [restOf_add] at hb
        rw [take_two _ _ _ _ _ ht hb]
        simp [bodyR]
    · rw [if_neg hf] at h; exact absurd h hf
/-- What is read is printed so. -/
theorem print_read (s : ByteArray) (most : Int) (h : redE s 0 most = 0) : printR (redOf s 0 most) = s.data.toList.take (redAt s 0 most) := by
  unfold redOf redAt
  rw [if_pos h]
  unfold redE at h
  split at h
  · omega
  · rename_i hneg
    rw [if_neg hneg]
    by_cases e : (rd (restOf s 0)).2.1 = 0
    · rw [if_neg (by omega)] at h
      rw [if_neg (by omega)]
      obtain ⟨rs, k, e2, hl, hok, hb⟩ := read_back _ _ _ _ _ h
      rw [e2]
      simp only [List.nil_append]
      have h1 := rd_take (restOf s 0) e
      rw [restOf_add] at hb
      have h2 := take_two _ _ _ _ _ h1 hb
      have h0 : restOf s 0 = s.data.toList := by unfold restOf; rw [List.drop_zero]
      rw [show 0 + (rd (restOf s 0)).2.2 + k = (rd (restOf s 0)).2.2 + k by omega, printR, packs_spreads rs hok, hl]
      rw [← h2, h0]
    · rw [if_pos e] at h; exact absurd h e
/-! ## How many runs, and two lists on end -/
theorem push_length {l : List Nat} {k x n : Nat} (h1 : l[k]? = some x) (h2 : l[k + 1]? = some n) : (packs (l.take (k + 2))).length = (packs (l.take (k + 1))).length + if n = x then 0 else 1 := by
  rw [show k + 2 = (k + 1) + 1 from rfl, packs_next h2]
  obtain ⟨d, y, e⟩ := packs_last h1
  rw [e]
  by_cases hx : x = n
  · subst hx; rw [pushRun_same, if_pos rfl]; simp
  · rw [pushRun_new _ _ _ _ hx, if_neg (fun e => hx e.symm)]; simp
theorem counts_sum (rs : List (Nat × Nat)) : (rs.map (·.2)).sum = (spreads rs).length := by
  induction rs with
  | nil => rfl
  | cons p rs ih => rw [total_cons, ← ih]; simp
theorem okFrom_front {p : Nat × Nat} {rs bef : List (Nat × Nat)} : okFrom [] (p :: rs) → lastIs bef p.1 = false → okFrom bef (p :: rs) := by
  rintro ⟨h1, _, h3⟩ hl
  refine ⟨h1, hl, ?_⟩
  suffices h : ∀ (rs a b : List (Nat × Nat)), (∀ x, lastIs a x = lastIs b x) → okFrom a rs → okFrom b rs from
    h rs _ _ (fun x => by rw [List.nil_append, lastIs_one, ← List.nil_append [p], lastIs_one]) h3
  intro rs
  induction rs with
  | nil => intro a b _ _; trivial
  | cons q rs ih =>
    rintro a b hab ⟨g1, g2, g3⟩
    exact ⟨g1, by rw [← hab]; exact g2, ih _ _ (fun x => by rw [lastIs_one, lastIs_one]) g3⟩
theorem packs_append (a b : List Nat) : packs (a ++ b) = (spreads (packs b)).foldl pushRun (packs a) := by
  rw [spreads_packs]; simp [packs]
/-- They meet in unlike numbers. -/
theorem joins_new (a b : List Nat) (p : Nat × Nat) (rs : List (Nat × Nat)) (hb : packs b = p :: rs) (h : lastIs (packs a) p.1 = false) : packs (a ++ b) = packs a ++ packs b := by
  rw [packs_append]
  refine push_spreads _ _ ?_
  rw [hb]
  exact okFrom_front (by rw [← hb]; exact packs_ok b) h
theorem joins_same (a b : List Nat) (d : List (Nat × Nat)) (x c c2 : Nat) (rs : List (Nat × Nat)) (ha : packs a = d ++ [(x, c)]) (hb : packs b = (x, c2) :: rs) : packs (a ++ b) = d ++ [(x, c + c2)] ++ rs := by
  rw [packs_append, hb, ha]
  have hok := packs_ok b
  rw [hb] at hok
  obtain ⟨h1, _, h3⟩ := hok
  have e : spreads ((x, c2) :: rs) = List.replicate c2 x ++ spreads rs := by simp [spreads]
  rw [e, List.foldl_append, push_rep]
  refine push_spreads _ _ ?_
  cases rs with
  | nil => trivial
  | cons q rs =>
    obtain ⟨g1, g2, g3⟩ := h3
    refine okFrom_front ⟨g1, rfl, ?_⟩ ?_
    · suffices h : ∀ (rs a b : List (Nat × Nat)), (∀ x, lastIs a x = lastIs b x) → okFrom a rs → okFrom b rs from
        h rs _ _ (fun y => by rw [lastIs_one, lastIs_one]) g3
      intro rs
      induction rs with
      | nil => intro a b _ _; trivial
      | cons q rs ih =>
        rintro a b hab ⟨g1, g2, g3⟩
        exact ⟨g1, by rw [← hab]; exact g2, ih _ _ (fun x => by rw [lastIs_one, lastIs_one]) g3⟩
    · rw [lastIs_one] at g2 ⊢; exact g2
theorem packs_first {b : List Nat} {x : Nat} (h : b[0]? = some x) : ∃ c rs, packs b = (x, c) :: rs := by
  cases b with
  | nil => simp at h
  | cons y b =>
    simp at h; subst h
    have e : packs (y :: b) = b.foldl pushRun [(y, 1)] := rfl
    rw [e]
    suffices h : ∀ (b : List Nat) (c : Nat) (rs : List (Nat × Nat)), ∃ c' rs', b.foldl pushRun ((y, c) :: rs) = (y, c') :: rs' from h b 1 []
    intro b
    induction b with
    | nil => intro c rs; exact ⟨c, rs, rfl⟩
    | cons n b ih =>
      intro c rs
      rw [List.foldl_cons]
      rcases runs_cases rs with rfl | ⟨d, v, k, rfl⟩
      · by_cases e : y = n
        · subst e
          rw [show [(y, c)] = [] ++ [(y, c)] from rfl, pushRun_same]; exact ih _ _
        · rw [show [(y, c)] = [] ++ [(y, c)] from rfl, pushRun_new _ _ _ _ e]; exact ih _ _
      · by_cases e : v = n
        · subst e
          rw [show (y, c) :: (d ++ [(v, k)]) = ((y, c) :: d) ++ [(v, k)] from rfl, pushRun_same]; exact ih _ _
        · rw [show (y, c) :: (d ++ [(v, k)]) = ((y, c) :: d) ++ [(v, k)] from rfl, pushRun_new _ _ _ _ e]; exact ih _ _
theorem packs_end {a : List Nat} {x : Nat} (h : a[a.length - 1]? = some x) : ∃ d c, packs a = d ++ [(x, c)] := by
  have hl : a.length - 1 < a.length := (List.getElem?_eq_some_iff.1 h).1
  have := packs_last h
  rwa [show a.length - 1 + 1 = a.length by omega, List.take_of_length_le (Nat.le_refl _)] at this
end Go.Proofs.Ytjkgckdldmhgjaa
