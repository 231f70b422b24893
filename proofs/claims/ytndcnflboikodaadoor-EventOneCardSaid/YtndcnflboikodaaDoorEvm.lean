/-
  Numbers in digits, words and lines of events (layer 15): what is written, and that it is written in one way.
-/
import Derived.Test.YtndcnflboikodaaDoorDec
import Derived.Test.YtndcnflboikodaaDoorEvrr
namespace Go.Proofs.YtndcnflboikodaaDoor
open Go.RowKit
set_option linter.unusedVariables false
set_option linter.unusedSimpArgs false
/-! ## Digits -/
def isDg (b : UInt8) : Prop := 48 ≤ b.toNat ∧ b.toNat ≤ 57
def valD (l : List UInt8) : Nat := l.foldl (fun n b => 10 * n + (b.toNat - 48)) 0
theorem valD_push (l : List UInt8) (b : UInt8) : valD (l ++ [b]) = 10 * valD l + (b.toNat - 48) := by simp [valD]
theorem dg_toNat {m : Nat} (h : m < 10) : (UInt8.ofNat (48 + m)).toNat = 48 + m := by rw [UInt8.toNat_ofNat', Nat.mod_eq_of_lt (by omega)]
theorem decF_dg : ∀ f n, ∀ b ∈ decF f n, isDg b
  | 0, n, b, hb => by
    simp only [decF, List.mem_singleton] at hb
    subst hb
    unfold isDg
    rw [dg_toNat (by omega)]; omega
  | f + 1, n, b, hb => by
    unfold decF at hb
    split at hb
    · rw [List.mem_singleton] at hb; subst hb
      unfold isDg
      rw [dg_toNat (by omega)]; omega
    · rcases List.mem_append.1 hb with h | h
      · exact decF_dg f _ b h
      · rw [List.mem_singleton] at h; subst h
        unfold isDg
        rw [dg_toNat (by omega)]; omega
theorem decF_val : ∀ f n, n < 10 ^ (f + 1) → valD (decF f n) = n
  | 0, n, h => by
    rw [decF, Nat.mod_eq_of_lt (by simpa using h)]
    unfold valD
    simp only [List.foldl_cons, List.foldl_nil]
    rw [dg_toNat (by simpa using h)]; omega
  | f + 1, n, h => by
    unfold decF
    split
    · rename_i h10
      unfold valD
      simp only [List.foldl_cons, List.foldl_nil]
      rw [dg_toNat h10]; omega
    · rw [valD_push, decF_val f (n / 10) (by rw [Nat.pow_succ] at h; omega), dg_toNat (by omega)]; omega
theorem decF_head : ∀ f n, n < 10 ^ (f + 1) → 10 ≤ n → ∃ b r, decF f n = b :: r ∧ b.toNat ≠ 48
  | 0, n, h, h2 => by simp at h; omega
  | f + 1, n, h, h2 => by
    unfold decF
    rw [if_neg (by omega)]
    by_cases h3 : n / 10 < 10
    · refine ⟨UInt8.ofNat (48 + n / 10), [UInt8.ofNat (48 + n % 10)], ?_, ?_⟩
      · cases f with
        | zero => rw [decF, Nat.mod_eq_of_lt h3]; rfl
        | succ f => rw [decF, if_pos h3]; rfl
      · rw [dg_toNat h3]; omega
    · obtain ⟨b, r, e, hb⟩ := decF_head f (n / 10) (by rw [Nat.pow_succ] at h; omega) (by omega)
      exact ⟨b, r ++ [UInt8.ofNat (48 + n % 10)], by rw [e]; rfl, hb⟩
/-- A word that is a number, as numbers are written. -/
def isNum (w : List UInt8) : Prop := w ≠ [] ∧ (∀ b ∈ w, isDg b) ∧ (1 < w.length → ∀ b, w[0]? = some b → b.toNat ≠ 48)
theorem valD_small {w : List UInt8} (hd : ∀ b ∈ w, isDg b) : w.length = 1 → valD w < 10 := by
  intro h
  match w, h with
  | [b], _ =>
    have := hd b (by simp)
    unfold isDg at this
    simp [valD]; omega
theorem ofNat_back {b : UInt8} {m : Nat} (h : b.toNat = m) : UInt8.ofNat m = b := by subst h; exact UInt8.ofNat_toNat
theorem valD_pos {w : List UInt8} (b : UInt8) (r : List UInt8) (h : w = b :: r) (hb : 48 < b.toNat) : 0 < valD w := by
  subst h
  suffices h : ∀ (l : List UInt8) (a : Nat), 0 < a → 0 < l.foldl (fun n b => 10 * n + (b.toNat - 48)) a by
    unfold valD
    rw [List.foldl_cons]
    exact h r _ (by omega)
  intro l
  induction l with
  | nil => intro a ha; exact ha
  | cons c l ih => intro a ha; rw [List.foldl_cons]; exact ih _ (by omega)
theorem decF_of : ∀ (f : Nat) (w : List UInt8), isNum w → valD w < 10 ^ (f + 1) → decF f (valD w) = w := by
  intro f
  induction f with
  | zero =>
    intro w hw h
    obtain ⟨h0, h1, h2⟩ := hw
    rcases List.eq_nil_or_concat w with rfl | ⟨r, b, rfl⟩
    · exact absurd rfl h0
    · rw [List.concat_eq_append] at *
      cases r with
      | nil =>
        have hb := h1 b (by simp)
        unfold isDg at hb
        rw [decF, Nat.mod_eq_of_lt (by simpa using h)]
        simp only [List.nil_append, List.cons.injEq, and_true]
        exact ofNat_back (by simp [valD]; omega)
      | cons c r =>
        have hc := h1 c (by simp)
        unfold isDg at hc
        have hp := valD_pos (w := c :: r) c r rfl (by
          have := h2 (by simp) c (by simp)
          omega)
        rw [valD_push] at h
        simp at h; omega
  | succ f ih =>
    intro w hw h
    obtain ⟨h0, h1, h2⟩ := hw
    rcases List.eq_nil_or_concat w with rfl | ⟨r, b, rfl⟩
    · exact absurd rfl h0
    · rw [List.concat_eq_append] at *
      have hb := h1 b (by simp)
      unfold isDg at hb
      cases r with
      | nil =>
        unfold decF
        have hv : valD ([] ++ [b]) = b.toNat - 48 := by simp [valD]
        rw [hv, if_pos (by omega)]
        simp only [List.nil_append, List.cons.injEq, and_true]
        exact ofNat_back (by omega)
      | cons c r =>
        have hc := h1 c (by simp)
        unfold isDg at hc
        have hn : isNum (c :: r) := ⟨by simp, fun x hx => h1 x (by simp at hx ⊢; rcases hx with h | h <;> simp [h]), fun hl x hx => h2 (by simp) x (by simpa using hx)⟩
        have hp := valD_pos (w := c :: r) c r rfl (by
          have := h2 (by simp) c (by simp)
          omega)
        rw [valD_push] at h ⊢
        have hd : (10 * valD (c :: r) + (b.toNat - 48)) / 10 = valD (c :: r) := by omega
        have hm : (10 * valD (c :: r) + (b.toNat - 48)) % 10 = b.toNat - 48 := by omega
        unfold decF
        rw [if_neg (by omega), hd, hm, ih (c :: r) hn (by rw [Nat.pow_succ] at h; omega)]
        rw [ofNat_back (b := b) (by omega)]
theorem pow19 {n : Nat} (h : n < 18446744073709551616) : n < 10 ^ (19 + 1) := Nat.lt_trans h (by decide)
theorem decE_of {w : List UInt8} (h : isNum w) (hv : valD w < 18446744073709551616) : decE (valD w) = w := decF_of 19 w h (pow19 hv)
theorem decE_num {n : Nat} (h : n < 18446744073709551616) : isNum (decE n) := by
  have hl := decF_length 19 n
  refine ⟨fun h => by unfold decE at h; rw [h] at hl; simp at hl, fun b hb => decF_dg 19 n b hb, fun h1 b hb => ?_⟩
  by_cases h10 : n < 10
  · unfold decE at h1
    rw [decF, if_pos h10] at h1
    simp at h1
  · obtain ⟨c, r, e, hc⟩ := decF_head 19 n (pow19 h) (by omega)
    unfold decE at hb
    rw [e] at hb
    simp at hb
    subst hb; exact hc
theorem decE_val {n : Nat} (h : n < 18446744073709551616) : valD (decE n) = n := decF_val 19 n (pow19 h)
theorem decE_inj {a b : Nat} (ha : a < 18446744073709551616) (hb : b < 18446744073709551616) (h : decE a = decE b) : a = b := by
  rw [← decE_val ha, ← decE_val hb, h]
theorem decE_length (n : Nat) : 1 ≤ (decE n).length ∧ (decE n).length ≤ 20 := decF_length 19 n
theorem dec_no {n : Nat} {c : UInt8} (h : c.toNat < 48) : c ∉ decE n := fun hm => by
  have := decF_dg 19 n c hm
  unfold isDg at this
  omega
/-! ## Words between bytes -/
def joinW (c : UInt8) : List (List UInt8) → List UInt8
  | [] => []
  | [w] => w
  | w :: v :: ws => w ++ c :: joinW c (v :: ws)
theorem joinW_cons (c : UInt8) (w v : List UInt8) (ws : List (List UInt8)) : joinW c (w :: v :: ws) = w ++ c :: joinW c (v :: ws) := rfl
theorem joinW_snoc (c : UInt8) : ∀ (ws : List (List UInt8)) (w : List UInt8), ws ≠ [] → joinW c (ws ++ [w]) = joinW c ws ++ c :: w
  | [], w, h => absurd rfl h
  | [v], w, _ => rfl
  | v :: u :: ws, w, _ => by
    rw [List.cons_append, List.cons_append, joinW_cons, joinW_cons]
    have := joinW_snoc c (u :: ws) w (by simp)
    rw [List.cons_append] at this
    rw [this]; simp
theorem cut_uniq {c : UInt8} : ∀ {p p' q q' : List UInt8}, c ∉ p → c ∉ p' → p ++ c :: q = p' ++ c :: q' → p = p' ∧ q = q'
  | [], [], q, q', _, _, h => by simpa using h
  | [], b :: p', q, q', _, h2, h => by
    simp at h
    exact absurd (by simp [h.1]) h2
  | b :: p, [], q, q', h1, _, h => by
    simp at h
    exact absurd (by simp [h.1]) h1
  | b :: p, b' :: p', q, q', h1, h2, h => by
    simp only [List.cons_append, List.cons.injEq] at h
    obtain ⟨rfl, h⟩ := h
    obtain ⟨rfl, rfl⟩ := cut_uniq (fun hm => h1 (List.mem_cons_of_mem _ hm)) (fun hm => h2 (List.mem_cons_of_mem _ hm)) h
    exact ⟨rfl, rfl⟩
theorem joinW_inj {c : UInt8} : ∀ {ws vs : List (List UInt8)}, (∀ w ∈ ws, c ∉ w) → (∀ w ∈ vs, c ∉ w) → ws ≠ [] → vs ≠ [] → joinW c ws = joinW c vs → ws = vs
  | [], _, _, _, h, _, _ => absurd rfl h
  | _, [], _, _, _, h, _ => absurd rfl h
  | [w], [v], _, _, _, _, h => by rw [show w = v from h]
  | [w], v :: u :: vs, h1, h2, _, _, h => by
    rw [joinW_cons] at h
    exact absurd (by rw [show w = _ from h]; simp) (h1 w (by simp))
  | w :: x :: ws, [v], h1, h2, _, _, h => by
    rw [joinW_cons] at h
    exact absurd (by rw [← show _ = v from h]; simp) (h2 v (by simp))
  | w :: x :: ws, v :: u :: vs, h1, h2, _, _, h => by
    rw [joinW_cons, joinW_cons] at h
    obtain ⟨e1, e2⟩ := cut_uniq (h1 w (by simp)) (h2 v (by simp)) h
    rw [e1, joinW_inj (fun y hy => h1 y (List.mem_cons_of_mem _ hy)) (fun y hy => h2 y (List.mem_cons_of_mem _ hy)) (by simp) (by simp) e2]
/-! ## The line of an event -/
def nameW (k : Int) : List UInt8 := (evnB k).data.toList
theorem nameW_text (k : Int) : textB (nameW k) = evnB k := by apply eq_of_data; simp [textB, nameW]
theorem evL_bytes : ∀ s ∈ evL, ∀ b ∈ s.data.toList, 97 ≤ b.toNat := by decide +kernel
theorem evL_sizes : ∀ s ∈ evL, s.data.toList.length ≤ 7 := by decide +kernel
theorem nameW_in (k : Int) : evnB k ∈ evL := by
  unfold evnB
  split
  · rename_i h
    have h2 := kindB_iff.1 h
    rw [List.getD_eq_getElem?_getD, List.getElem?_eq_getElem (by rw [evL_length]; omega)]
    exact List.getElem_mem _
  · exact List.mem_cons_self
theorem nameW_no {k : Int} {c : UInt8} (h : c.toNat < 48) : c ∉ nameW k := fun hm => by
  have := evL_bytes _ (nameW_in k) c hm
  omega
theorem nameW_size (k : Int) : (nameW k).length ≤ 7 := evL_sizes _ (nameW_in k)
/-- The words of an event's line. -/
def evW (x : Ev) : List (List UInt8) :=
  decE x.th.toNat :: nameW x.kd :: ((if ringB x.kd = true then [decE x.rg.toNat] else []) ++ ((if ticketB x.kd = true then [decE x.tk] else []) ++ (if valueB x.kd = true then [decE x.vl] else [])))
def lineE (x : Ev) : List UInt8 := joinW 32 (evW x)
theorem lineE_is (x : Ev) : lineE x = decE x.th.toNat ++ 32 :: nameW x.kd ++ ((if ringB x.kd = true then 32 :: decE x.rg.toNat else []) ++ ((if ticketB x.kd = true then 32 :: decE x.tk else []) ++ (if valueB x.kd = true then 32 :: decE x.vl else []))) := by
  unfold lineE evW
  rcases kinds_apart x.kd with ⟨h1, h2, h3⟩ | ⟨h1, h2, h3⟩ | ⟨h1, h2, h3⟩ | ⟨h1, h2, h3⟩
  all_goals
    rw [h1, h2, h3]
    simp [joinW]
theorem evW_no (x : Ev) {c : UInt8} (hc : c.toNat < 48) : ∀ w ∈ evW x, c ∉ w := by
  intro w hw
  unfold evW at hw
  simp only [List.mem_cons, List.mem_append] at hw
  rcases hw with rfl | rfl | h | h | h
  · exact dec_no hc
  · exact nameW_no hc
  · split at h
    · rw [List.mem_singleton] at h; subst h; exact dec_no hc
    · simp at h
  · split at h
    · rw [List.mem_singleton] at h; subst h; exact dec_no hc
    · simp at h
  · split at h
    · rw [List.mem_singleton] at h; subst h; exact dec_no hc
    · simp at h
theorem joinW_mem {c b : UInt8} : ∀ {ws : List (List UInt8)}, b ∈ joinW c ws → b = c ∨ ∃ w ∈ ws, b ∈ w
  | [], h => by simp [joinW] at h
  | [w], h => .inr ⟨w, by simp, h⟩
  | w :: v :: ws, h => by
    rw [joinW_cons, List.mem_append, List.mem_cons] at h
    rcases h with h | h | h
    · exact .inr ⟨w, by simp, h⟩
    · exact .inl h
    · rcases joinW_mem h with h | ⟨u, hu, hb⟩
      · exact .inl h
      · exact .inr ⟨u, List.mem_cons_of_mem _ hu, hb⟩
theorem line_no10 (x : Ev) : (10 : UInt8) ∉ lineE x := fun h => by
  rcases joinW_mem h with h | ⟨w, hw, hb⟩
  · exact absurd h (by decide)
  · exact evW_no x (by decide) w hw hb
theorem lineE_length (x : Ev) : 1 ≤ (lineE x).length ∧ (lineE x).length ≤ 100 := by
  rw [lineE_is]
  have h1 := decE_length x.th.toNat
  have h2 := nameW_size x.kd
  have h3 := decE_length x.rg.toNat
  have h4 := decE_length x.tk
  have h5 := decE_length x.vl
  simp only [List.length_append, List.length_cons]
  split <;> split <;> split <;> simp only [List.length_cons, List.length_nil] <;> omega
theorem right_parts {x : Ev} (h : rightE x = true) : kindB x.kd = true ∧ (0 ≤ x.th ∧ x.th ≤ 7 ∧ 0 ≤ x.rg ∧ x.rg ≤ 7 ∧ x.tk < 4611686018427387904) ∧ (ringB x.kd = true ∨ x.rg = 0) ∧ (ticketB x.kd = true ∨ x.tk = 0) ∧ (valueB x.kd = true ∨ x.vl = 0) := by
  rw [rightE2] at h
  simp only [Bool.and_eq_true, Bool.or_eq_true, beq_iff_eq] at h
  obtain ⟨h1, h2, h3, h4, h5⟩ := h
  exact ⟨h1, of_decide_eq_true h2, h3, h4, h5⟩
theorem evL_apart : ∀ i, i < 16 → ∀ j, j < 16 → evL.getD i ByteArray.empty = evL.getD j ByteArray.empty → i = j := by decide +kernel
theorem name_inj {k k' : Int} (h : kindB k = true) (h' : kindB k' = true) (e : evnB k = evnB k') : k = k' := by
  have a := kindB_iff.1 h
  have b := kindB_iff.1 h'
  unfold evnB at e
  rw [if_pos h, if_pos h'] at e
  have := evL_apart _ (by omega) _ (by omega) e
  omega
/-- Right events with one line are the same. -/
theorem line_inj {x y : Ev} (hx : rightE x = true) (hy : rightE y = true) (hxv : x.vl ≤ 18446744073709551615) (hyv : y.vl ≤ 18446744073709551615) (h : lineE x = lineE y) : x = y := by
  have hw : evW x = evW y := joinW_inj (evW_no x (c := 32) (by decide)) (evW_no y (c := 32) (by decide)) (by simp [evW]) (by simp [evW]) h
  obtain ⟨k1, ⟨r1, r2, r3, r4, r5⟩, q1, q2, q3⟩ := right_parts hx
  obtain ⟨k2, ⟨s1, s2, s3, s4, s5⟩, t1, t2, t3⟩ := right_parts hy
  obtain ⟨a, b, c, d, e⟩ := x
  obtain ⟨a', b', c', d', e'⟩ := y
  unfold evW at hw
  simp only at *
  simp only [List.cons.injEq] at hw
  obtain ⟨e1, e2, e3⟩ := hw
  have hk : b = b' := name_inj k1 k2 (by rw [← nameW_text, ← nameW_text, e2])
  subst hk
  have e1 := decE_inj (by omega) (by omega) e1
  have ha : a = a' := by omega
  subst ha
  rcases kinds_apart b with ⟨h1, h2, h3⟩ | ⟨h1, h2, h3⟩ | ⟨h1, h2, h3⟩ | ⟨h1, h2, h3⟩
  all_goals
    rw [h1, h2, h3] at e3
    rw [h1] at q2 t2
    rw [h2] at q1 t1
    rw [h3] at q3 t3
    simp at e3 q1 q2 q3 t1 t2 t3
  · have := decE_inj (by omega) (by omega) e3.1
    have := decE_inj (by omega) (by omega) e3.2
    rw [Ev.mk.injEq]; omega
  · have := decE_inj (by omega) (by omega) e3
    rw [Ev.mk.injEq]; omega
  · have := decE_inj (by omega) (by omega) e3
    rw [Ev.mk.injEq]; omega
  · rw [Ev.mk.injEq]; omega
end Go.Proofs.YtndcnflboikodaaDoor
