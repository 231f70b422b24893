import Derived.Test.YtmadgdmiipgjoaaZz7
namespace Go.Proofs.Ytmadgdmiipgjoaa
open Go.RowKit
set_option linter.unusedVariables false
set_option linter.unusedSimpArgs false
theorem bitsN_top (c m : Nat) : bitsN c (m + 1) = decide (c / 2 ^ m % 2 = 1) :: bitsN c m := by
 apply List.ext_getElem?
 intro i
 by_cases hi : i < m + 1
 ·rw [bitsN_get _ _ _ hi]
  cases i with
  | zero => simp
  | succ i =>
   rw [List.getElem?_cons_succ, bitsN_get _ _ _ (by omega)]
   rw [show m + 1 - 1 - (i + 1) = m - 1 - i by omega]
 ·rw [List.getElem?_eq_none (by rw [bitsN_length]; omega), List.getElem?_eq_none (by rw [List.length_cons, bitsN_length]; omega)]
theorem nx_run {ls : List Nat} {k c : Nat} (h1 : fcN ls k ≤ c) (h2 : c < fcN ls k + ls.count k) (hk : 0 < k) (t : List Bool) : ∀ (m j f a : Nat), j + m = k → 0 < j → m < f → 2 * a + fcN ls j = 2 * (c / 2 ^ (m + 1)) →
  nxS ls f j a (bitsN c (m + 1) ++ t) = (some (pre ls k + (c - fcN ls k)), m + 1)
 | m, j, 0, a, hj, hj0, hf, ha => by omega
 | m, j, f + 1, a, hj, hj0, hf, ha => by
  rw [bitsN_top, List.cons_append, nxS]
  have hb : 2 * (c / 2 ^ (m + 1)) + (decide (c / 2 ^ m % 2 = 1)).toNat = c / 2 ^ m := by
   rw [Nat.pow_succ, ← Nat.div_div_eq_div_mul]
   by_cases h : c / 2 ^ m % 2 = 1
   ·rw [decide_eq_true h]; show _ + 1 = _; omega
   ·rw [decide_eq_false h]; show _ + 0 = _; omega
  generalize (decide (c / 2 ^ m % 2 = 1)).toNat = bt at *
  cases m with
  | zero =>
   rw [Nat.pow_zero, Nat.div_one] at hb
   obtain rfl : j = k := by omega
   rw [if_pos (by omega)]
   rw [show 2 * a + bt = c - fcN ls j by omega]
  | succ m =>
   have hfar := fcN_far ls (m + 1) j hj0
   rw [if_neg (show ¬ m + 1 = 0 by omega), Nat.mul_one, hj] at hfar
   have hge : fcN ls j + ls.count j ≤ c / 2 ^ (m + 1) := by
    rw [Nat.le_div_iff_mul_le (Nat.two_pow_pos _), Nat.mul_comm]; omega
   rw [if_neg (by omega)]
   have ih := nx_run h1 h2 hk t m (j + 1) f (2 * a + bt - ls.count j) (by omega) (by omega) (by omega) (by
    rw [fcN, if_neg (show ¬ j = 0 by omega)]; omega)
   rw [ih]
theorem nx_code {ls : List Nat} {k c : Nat} (h1 : fcN ls k ≤ c) (h2 : c < fcN ls k + ls.count k) (h2' : c < 2 ^ k) (hk : 0 < k) (hk56 : k ≤ 56) (t : List Bool) :
  nxS ls 56 1 0 (bitsN c k ++ t) = (some (pre ls k + (c - fcN ls k)), k) := by
 obtain ⟨m, rfl⟩ : ∃ m, k = m + 1 := ⟨k - 1, by omega⟩
 exact nx_run h1 h2 hk t m 1 56 0 (by omega) (by omega) (by omega) (by
  rw [Nat.div_eq_of_lt h2']
  show 2 * 0 + 2 * (0 + 0) = _
  rfl)
theorem nx_byte {ls : List Nat} (hl : ls.length = 256) (h56 : ∀ x ∈ ls, x ≤ 56) (hs : shr ls 256 ≤ 2 ^ 56) {i k : Nat} (hi : ls[i]? = some k) (hk : 0 < k) (t : List Bool) :
  ∃ p, nxS ls 56 1 0 (putL ((codL ls).getD i 0) k ++ t) = (some p, k) ∧ (byL ls).getD p 0 = i := by
 obtain ⟨hc, hlt⟩ := codL_get hl h56 hs hi hk
 have hct := ct_lt_all hi
 have hk56 := h56 k (List.mem_of_getElem? hi)
 have hil := (List.getElem?_eq_some_iff.1 hi).1
 refine ⟨pre ls k + ct ls k i, ?_, ?_⟩
 ·unfold putL
  rw [if_pos (by omega), hc, nx_code (by omega) (by omega) (by omega) hk hk56, Nat.add_sub_cancel_left]
 ·have := (byL_ok hl h56).2 i k (by omega) hi hk
  exact getD_of this
theorem dc_back {ls : List Nat} (hl : ls.length = 256) (h56 : ∀ x ∈ ls, x ≤ 56) (hs : shr ls 256 ≤ 2 ^ 56) (L : List Bool) : ∀ (bs : List UInt8) (i : Nat) (t : List Bool),
  (∀ b ∈ bs, 0 < ls.getD b.toNat 0) → L.drop i = pkB (codL ls) ls bs ++ t → i ≤ L.length → dcD ls L bs.length i = (bs, i + (pkB (codL ls) ls bs).length, true)
 | [], i, t, _, _, _ => by rw [List.length_nil, dcD_zero]; rfl
 | b :: bs, i, t, hb, hd, hi => by
  have hb0 := hb b (by simp)
  have hbl := b.toNat_lt
  have hg : ls[b.toNat]? = some (ls.getD b.toNat 0) := by rw [List.getD_eq_getElem?_getD, List.getElem?_eq_getElem (by omega)]; rfl
  have e : pkB (codL ls) ls (b :: bs) = putL ((codL ls).getD b.toNat 0) (ls.getD b.toNat 0) ++ pkB (codL ls) ls bs := by unfold pkB; rw [List.flatMap_cons]
  rw [e, List.append_assoc] at hd
  obtain ⟨p, hn, hp⟩ := nx_byte hl h56 hs hg hb0 (pkB (codL ls) ls bs ++ t)
  have hk56 := h56 _ (List.mem_of_getElem? hg)
  have hpl : (putL ((codL ls).getD b.toNat 0) (ls.getD b.toNat 0)).length = ls.getD b.toNat 0 := by unfold putL; rw [if_pos (by omega), bitsN_length]
  have hn1 : (nxS ls 56 1 0 (L.drop i)).1 = some p := by rw [hd, hn]
  have hn2 : (nxS ls 56 1 0 (L.drop i)).2 = ls.getD b.toNat 0 := by rw [hd, hn]
  have hdl := congrArg List.length hd
  rw [List.length_drop, List.length_append, hpl] at hdl
  have hd2 : L.drop (i + ls.getD b.toNat 0) = pkB (codL ls) ls bs ++ t := by
   rw [← List.drop_drop, hd]; exact List.drop_left' hpl
  have ih := dc_back hl h56 hs L bs (i + ls.getD b.toNat 0) t (fun x hx => hb x (by simp [hx])) hd2 (by omega)
  rw [List.length_cons, dcD_some hn1, hn2, ih, hp, e, List.length_append, hpl]
  simp only [Prod.mk.injEq, List.cons.injEq, and_true, true_and]
  exact ⟨UInt8.ofNat_toNat, by omega⟩
theorem cntL_pos (n : Nat) : ∀ bs : List UInt8, bs.length = n → ∀ b ∈ bs, 0 < (cntL bs).getD b.toNat 0 := by
 induction n with
 | zero => intro bs h b hb; rw [List.length_eq_zero_iff.1 h] at hb; simp at hb
 | succ n ih =>
  intro bs h b hb
  obtain ⟨bs', x, rfl⟩ : ∃ l b, bs = l ++ [b] := ⟨bs.dropLast, bs.getLast (by intro e; rw [e] at h; simp at h), (List.dropLast_concat_getLast _).symm⟩
  have h' : bs'.length = n := by simpa using h
  rw [cntL_snoc]
  unfold cntF
  have hl := cntL_length bs'
  rw [getD_set _ _ _ _ (by rw [hl]; exact x.toNat_lt)]
  split
  ·omega
  ·next hne =>
   rcases List.mem_append.1 hb with hb | hb
   ·exact ih bs' h' b hb
   ·rw [List.mem_singleton] at hb; exact absurd (by rw [hb]) hne
theorem text_coded (bs : List UInt8) : ∀ b ∈ bs, 0 < (lnT bs).getD b.toNat 0 := fun b hb => by
 have h := cntL_pos _ bs rfl b hb
 have hl := cntL_length bs
 have hbl := b.toNat_lt
 have hg : (cntL bs)[b.toNat]? = some ((cntL bs).getD b.toNat 0) := by rw [List.getD_eq_getElem?_getD, List.getElem?_eq_getElem (by omega)]; rfl
 have hz := lensW_zero hl hg
 show 0 < (lensW (cntL bs)).getD b.toNat 0
 omega
def okFrom : List (Nat × Nat) → List (Nat × Nat) → Prop
 | _, [] => True
 | bef, p :: rest => p.2 ≠ 0 ∧ lastIs bef p.1 = false ∧ okFrom (bef ++ [p]) rest
theorem okFrom_snoc : ∀ (rs bef : List (Nat × Nat)) (p : Nat × Nat), okFrom bef (rs ++ [p]) ↔ okFrom bef rs ∧ p.2 ≠ 0 ∧ lastIs (bef ++ rs) p.1 = false
 | [], bef, p => by simp [okFrom]
 | q :: rs, bef, p => by
  simp only [List.cons_append, okFrom]
  rw [okFrom_snoc rs (bef ++ [q]) p]
  simp [and_assoc]
theorem total_cons (p : Nat × Nat) (rs : List (Nat × Nat)) : (spreads (p :: rs)).length = p.2 + (spreads rs).length := by simp [spreads]
theorem push_rep (bef : List (Nat × Nat)) (x k : Nat) : ∀ c, (List.replicate c x).foldl pushRun (bef ++ [(x, k)]) = bef ++ [(x, k + c)]
 | 0 => by simp
 | c + 1 => by
  rw [List.replicate_succ, List.foldl_cons, pushRun_same, push_rep bef x (k + 1) c, show k + 1 + c = k + (c + 1) by omega]
theorem ok_push (rs : List (Nat × Nat)) (n : Nat) (h : okFrom [] rs) : okFrom [] (pushRun rs n) := by
 rcases runs_cases rs with rfl | ⟨d, v, c, rfl⟩
 ·rw [pushRun_nil]; exact ⟨by simp, rfl, trivial⟩
 ·by_cases e : v = n
  ·subst e
   rw [pushRun_same]
   rw [okFrom_snoc] at h ⊢
   exact ⟨h.1, by simp, h.2.2⟩
  ·rw [pushRun_new _ _ _ _ e, okFrom_snoc]
   refine ⟨h, by simp, ?_⟩
   rw [List.nil_append, lastIs_snoc]; simpa using e
theorem spreads_push (rs : List (Nat × Nat)) (n : Nat) : spreads (pushRun rs n) = spreads rs ++ [n] := by
 rcases runs_cases rs with rfl | ⟨d, v, c, rfl⟩
 ·rfl
 ·by_cases e : v = n
  ·subst e
   rw [pushRun_same, spreads_append, spreads_append, spreads_one, spreads_one, List.replicate_succ', List.append_assoc]
  ·rw [pushRun_new _ _ _ _ e, spreads_append, spreads_one]; rfl
theorem packs_ok (l : List Nat) : okFrom [] (packs l) := by
 suffices h : ∀ (l : List Nat) rs, okFrom [] rs → okFrom [] (l.foldl pushRun rs) from h l [] trivial
 intro l
 induction l with
 | nil => intro rs h; exact h
 | cons n l ih => intro rs h; exact ih _ (ok_push rs n h)
theorem spreads_packs (l : List Nat) : spreads (packs l) = l := by
 suffices h : ∀ (l : List Nat) rs, spreads (l.foldl pushRun rs) = spreads rs ++ l by
  have := h l []
  simpa [packs, spreads] using this
 intro l
 induction l with
 | nil => intro rs; simp
 | cons n l ih => intro rs; rw [List.foldl_cons, ih, spreads_push]; simp
theorem restOf_add (s : ByteArray) (p k : Nat) : restOf s (p + k) = (restOf s p).drop k := by unfold restOf; rw [List.drop_drop]
theorem read_body : ∀ (rs bef : List (Nat × Nat)) (room p : Nat) (s : ByteArray) (r : List UInt8), okFrom bef rs → (spreads rs).length ≤ room → room < M64 → (∀ q ∈ rs, q.1 < M64) → restOf s p = bodyR rs ++ r →
  readR rs.length s p bef room = (bef ++ rs, 0, p + (bodyR rs).length)
 | [], bef, room, p, s, r, _, _, _, _, _ => by simp [readR, bodyR]
 | (x, c) :: rs, bef, room, p, s, r, ⟨h1, h2, h3⟩, ht, hr, hm, he => by
  simp only at h1 h2
  rw [total_cons] at ht
  simp only at ht
  have hx := hm (x, c) (by simp)
  simp only at hx
  have eb : bodyR ((x, c) :: rs) = enc x ++ (enc (c - 1) ++ bodyR rs) := by simp [bodyR]
  rw [eb] at he
  have r1 : rd (restOf s p) = (x, 0, (enc x).length) := by rw [he, List.append_assoc]; exact rd_enc x _ hx
  have he2 : restOf s (p + (enc x).length) = enc (c - 1) ++ (bodyR rs ++ r) := by
   rw [restOf_add, he, List.append_assoc, List.drop_left, List.append_assoc]
  have r2 : rd (restOf s (p + (enc x).length)) = (c - 1, 0, (enc (c - 1)).length) := by rw [he2]; exact rd_enc (c - 1) _ (by omega)
  have he3 : restOf s (p + (enc x).length + (enc (c - 1)).length) = bodyR rs ++ r := by rw [restOf_add, he2, List.drop_left]
  have hn : nextR s p bef room = ((x, c), 0, p + (enc x).length + (enc (c - 1)).length) := by
   unfold nextR
   rw [r1]
   simp only
   rw [r2]
   simp only [ne_eq, not_true_eq_false, if_false, h2]
   rw [if_neg (by decide), if_neg (by omega), show c - 1 + 1 = c by omega]
  rw [List.length_cons, readR, hn]
  simp only [if_true]
  rw [read_body rs (bef ++ [(x, c)]) (room - c) _ s r h3 (by omega) (by omega) (fun q hq => hm q (by simp [hq])) he3, eb]
  simp only [List.append_assoc, List.length_append, List.singleton_append, Prod.mk.injEq, true_and]
  omega
theorem read_printed (l : List Nat) (r : List UInt8) (s : ByteArray) (p : Nat) (hs : restOf s p = printR l ++ r) (hl : l.length < M64) (hm : ∀ n ∈ l, n < M64) :
  redE s p (l.length : Nat) = 0 ∧ redAt s p (l.length : Nat) = p + (printR l).length ∧ redOf s p (l.length : Nat) = l := by
 have h0 : restOf s p = enc (packs l).length ++ (bodyR (packs l) ++ r) := by rw [hs, printR, List.append_assoc]
 have hpl := (packs_in l).1
 have r1 : rd (restOf s p) = ((packs l).length, 0, (enc (packs l).length).length) := by rw [h0]; exact rd_enc _ _ (by omega)
 have h1 : restOf s (p + (enc (packs l).length).length) = bodyR (packs l) ++ r := by rw [restOf_add, h0, List.drop_left]
 have hb := read_body (packs l) [] l.length _ s r (packs_ok l) (by rw [spreads_packs]; exact Nat.le_refl _) hl (packs_mem l hm) h1
 have e1 : redE s p (l.length : Nat) = 0 := by
  unfold redE
  rw [if_neg (by omega), r1]
  simp only [ne_eq, not_true_eq_false, if_false, Int.toNat_natCast]
  rw [hb]
 refine ⟨e1, ?_, ?_⟩
 ·unfold redAt
  rw [if_neg (by omega), r1]
  simp only [ne_eq, not_true_eq_false, if_false, Int.toNat_natCast]
  rw [hb, printR, List.length_append, Nat.add_assoc]
 ·unfold redOf
  rw [if_pos e1, r1]
  simp only [Int.toNat_natCast]
  rw [hb]
  exact spreads_packs l
theorem cutB_rest (s : ByteArray) (i : Nat) : cutB s i (8 * s.size - i) = (allB s).drop i := by
 unfold cutB; rw [List.take_of_length_le]; rw [List.length_drop, allB_length]; omega
theorem bitD_get (l : List Bool) (m : Nat) (h : m < l.length) : l[m]? = some (decide (bitD l m = 1)) := by
 unfold bitD
 rw [List.getD_eq_getElem?_getD, List.getElem?_eq_getElem h]
 cases l[m] <;> simp
theorem byteN_bit (l : List Bool) (j r : Nat) (hr : r < 8) : byteN l j / 2 ^ (7 - r) % 2 = bitD l (8 * j + r) := by
 unfold byteN
 have := bitD_le l (8 * j); have := bitD_le l (8 * j + 1); have := bitD_le l (8 * j + 2); have := bitD_le l (8 * j + 3)
 have := bitD_le l (8 * j + 4); have := bitD_le l (8 * j + 5); have := bitD_le l (8 * j + 6); have := bitD_le l (8 * j + 7)
 rcases (show r = 0 ∨ r = 1 ∨ r = 2 ∨ r = 3 ∨ r = 4 ∨ r = 5 ∨ r = 6 ∨ r = 7 by omega) with rfl | rfl | rfl | rfl | rfl | rfl | rfl | rfl
 all_goals simp only [Nat.add_zero, Nat.reducePow, Nat.reduceSub]; omega
theorem allB_pack (l : List Bool) : allB (textB (packB l)) = l ++ List.replicate (8 * ((l.length + 7) / 8) - l.length) false := by
 have hsz : (textB (packB l)).size = (l.length + 7) / 8 := by rw [textB_size, packB_length]
 apply List.ext_getElem?
 intro p
 by_cases hp : p / 8 < (l.length + 7) / 8
 ·rw [allB_get _ p (by rw [hsz]; exact hp)]
  have hb : ((textB (packB l))[p / 8]'(by rw [hsz]; exact hp)).toNat = byteN l (p / 8) := by
   have h1 := byte_of (textB (packB l)) (p / 8) (by rw [hsz]; exact hp)
   have h2 := packB_get l (p / 8) hp
   have h3 : (textB (packB l)).data.toList = packB l := by simp [textB]
   rw [h3, h2] at h1
   injection h1 with h1
   rw [← h1, byte_val]
  rw [hb, byteN_bit l (p / 8) (p % 8) (by omega), show 8 * (p / 8) + p % 8 = p by omega]
  rcases Nat.lt_or_ge p l.length with h | h
  ·rw [List.getElem?_append_left h, bitD_get l p h]
  ·rw [List.getElem?_append_right h, bitD_out l p h, List.getElem?_replicate, if_pos (by omega)]
   rfl
 ·rw [List.getElem?_eq_none (by rw [allB_length, hsz]; omega), List.getElem?_eq_none (by rw [List.length_append, List.length_replicate]; omega)]
theorem numB_zeros (n : Nat) : numB (List.replicate n false) = 0 := by
 induction n with
 | zero => rfl
 | succ n ih => rw [List.replicate_succ, numB_cons, ih]; simp
theorem done_pack (l : List Bool) : doneE (textB (packB l)) l.length = 0 := by
 have hsz : (textB (packB l)).size = (l.length + 7) / 8 := by rw [textB_size, packB_length]
 unfold doneE doneB
 rw [cutB_rest, allB_pack, List.drop_left' rfl, numB_zeros, hsz, decide_eq_true ⟨by omega, rfl⟩, if_pos rfl]
theorem cut_text (a b : List UInt8) : (textB (a ++ b)).extract a.length (textB (a ++ b)).size = textB b := by
 apply ByteArray.ext
 apply Array.toList_inj.1
 rw [textB_size, ByteArray.data_extract, Array.toList_extract, List.extract_eq_take_drop]
 show ((a ++ b).drop a.length).take _ = b
 rw [List.drop_left, List.take_of_length_le (by rw [List.length_append]; omega)]
theorem text_whole (bs : List UInt8) (h : bs.length ≤ 60000000) : wholeB (lnT bs) = true ∧ shr (lnT bs) 256 ≤ 2 ^ 56 := lens_whole (cntL_length bs) (lens_text bs h)
theorem text_codes (bs : List UInt8) (h : bs.length ≤ 60000000) : cdT bs = codL (lnT bs) := by
 have h56 : ∀ x ∈ lnT bs, x ≤ 56 := lens_text bs h
 have hg : greatB (lnT bs) = false := by
  unfold greatB; rw [List.any_eq_false]; intro x hx; have := h56 x hx; simp; omega
 have hE : cdsE (lnT bs) = 0 := by
  unfold cdsE
  rw [hg, (text_whole bs h).1]; rfl
 unfold cdT cdsOf
 rw [hE]; rfl
theorem un_back (bs : List UInt8) (h : bs.length ≤ 60000000) : unE (textB (pkT bs)) (bs.length : Nat) = 0 ∧ unT (textB (pkT bs)) (bs.length : Nat) = bs := by
 have h56 : ∀ x ∈ lnT bs, x ≤ 56 := lens_text bs h
 have hll : (lnT bs).length = 256 := lensW_length _ (cntL_length bs)
 obtain ⟨hwb, hsh⟩ := text_whole bs h
 obtain ⟨B, hB⟩ : ∃ B, B = pkB (codL (lnT bs)) (lnT bs) bs := ⟨_, rfl⟩
 have hpk : pkT bs = enc bs.length ++ (printR (lnT bs) ++ packB B) := by unfold pkT; rw [text_codes bs h, hB]
 obtain ⟨s, hs⟩ : ∃ s, s = textB (pkT bs) := ⟨_, rfl⟩
 rw [← hs]
 have h0 : restOf s 0 = enc bs.length ++ (printR (lnT bs) ++ packB B) := by rw [hs, hpk]; rfl
 have r1 : rd (restOf s 0) = (bs.length, 0, (enc bs.length).length) := by rw [h0]; exact rd_enc _ _ (by unfold M64; omega)
 have hA : unA s = (enc bs.length).length := by unfold unA; rw [r1]
 have h1 : restOf s (unA s) = printR (lnT bs) ++ packB B := by
  have := restOf_add s 0 (enc bs.length).length
  rw [Nat.zero_add, h0, List.drop_left] at this
  rw [hA]; exact this
 obtain ⟨e1, e2, e3⟩ := read_printed (lnT bs) (packB B) s (unA s) h1 (by rw [hll]; decide) (fun n hn => by have := h56 n hn; unfold M64; omega)
 rw [hll] at e1 e2 e3
 have c256 : ((256 : Nat) : Int) = 256 := rfl
 rw [c256] at e1 e2 e3
 have hrA : rlA s (unA s) = true := by
  unfold rlA
  rw [e1, e3, hll]
  simp only [decide_true, Bool.true_and, List.all_eq_true, decide_eq_true_eq]
  exact h56
 have hL : unL s = lnT bs := by unfold unL rlL; rw [if_pos hrA, e3]
 have hrB : rlB s (unA s) = true := by
  unfold rlB
  rw [hrA, show rlL s (unA s) = lnT bs from hL, hwb]; rfl
 have hZ : s.extract (unZ s) s.size = textB (packB B) := by
  have := cut_text (enc bs.length ++ printR (lnT bs)) (packB B)
  rw [List.append_assoc, ← hpk, ← hs, List.length_append] at this
  unfold unZ
  rw [e2, hA]; exact this
 have hd := dc_back hll h56 hsh (allB (textB (packB B))) bs 0 (List.replicate (8 * ((B.length + 7) / 8) - B.length) false) (text_coded bs) (by rw [List.drop_zero, allB_pack, hB]) (Nat.zero_le _)
 rw [← hB, Nat.zero_add] at hd
 have hdT : dcT (lnT bs) (textB (packB B)) bs.length = bs := by unfold dcT; rw [hd]; rfl
 have hdB : dcB (lnT bs) (textB (packB B)) bs.length = true := by
  unfold dcB; rw [hd]
  show (true && decide (doneE _ B.length = 0)) = true
  rw [done_pack]; rfl
 have hTx : unTx s = bs := by unfold unTx; rw [hL, hZ, r1]; exact hdT
 have hE : unE s (bs.length : Nat) = 0 := by
  unfold unE
  rw [if_neg (by omega), r1]
  simp only [ne_eq, not_true_eq_false, if_false]
  rw [if_neg (by omega), hrB, if_neg (by decide), hL, hZ, hdB, if_neg (by decide), hTx, if_pos hs.symm]
 exact ⟨hE, by unfold unT; rw [if_pos hE, hTx]⟩
def haltE : Ev := ⟨0, 14, 0, 0, 0⟩
def haltL : List Ev := [haltE, haltE]
theorem unE_more {s : ByteArray} {L M : Int} (h : unE s L = 0) (hLM : L ≤ M) : unE s M = 0 ∧ unT s M = unT s L := by
 have h1 : unE s M = 0 := by
  unfold unE at h ⊢
  by_cases c0 : L < 0
  ·rw [if_pos c0] at h; exact absurd h (by decide)
  rw [if_neg c0] at h
  rw [if_neg (by omega)]
  by_cases c1 : (rd (restOf s 0)).2.1 ≠ 0
  ·rw [if_pos c1] at h; exact absurd h (by decide)
  rw [if_neg c1] at h ⊢
  by_cases c2 : L < ((rd (restOf s 0)).1 : Int)
  ·rw [if_pos c2] at h; exact absurd h (by decide)
  rw [if_neg c2] at h
  rw [if_neg (by omega)]
  exact h
 exact ⟨h1, by unfold unT; rw [if_pos h1, if_pos h]⟩
theorem un_any (bs : List UInt8) (h : bs.length ≤ 60000000) (M : Int) (hM : (bs.length : Int) ≤ M) : unE (textB (pkT bs)) M = 0 ∧ unT (textB (pkT bs)) M = bs := by
 obtain ⟨h1, h2⟩ := un_back bs h
 obtain ⟨h3, h4⟩ := unE_more h1 hM
 exact ⟨h3, h4.trans h2⟩
theorem rdC_pk (bs : List UInt8) (h : bs.length ≤ 4194304) (most : Int) (h0 : 0 ≤ most) (h1 : most ≤ 65536) : rdC (textB (pkT bs)) most = rdS (textB bs) most := by
 obtain ⟨h3, h4⟩ := un_any bs (by omega) 4194304 (by omega)
 unfold rdC
 rw [if_neg (by omega), if_pos h3, h4]
theorem halt_str : strS haltL = [1, 0, 1, 1, 14, 1, 0, 0, 0] := by decide +kernel
theorem halt_ch : chE haltL = (0, 0) := by decide +kernel
theorem halt_two : rdS (textB [1, 0, 1, 1, 14, 1, 0, 0, 0]) 2 = (0, haltL) := by decide +kernel
theorem halt_one : rdS (textB [1, 0, 1, 1, 14, 1, 0, 0, 0]) 1 = (3, []) := by decide +kernel
theorem none_ch : chE [zeroE] = (0, 3) := by decide +kernel
theorem halt_pr : prV haltL = pkT [1, 0, 1, 1, 14, 1, 0, 0, 0] := by unfold prV; rw [halt_ch, if_pos rfl, halt_str]
theorem halt_rd2 : rdC (textB (prV haltL)) 2 = (0, haltL) := by rw [halt_pr, rdC_pk _ (by decide) _ (by decide) (by decide), halt_two]
theorem halt_rd1 : rdC (textB (prV haltL)) 1 = (3, []) := by rw [halt_pr, rdC_pk _ (by decide) _ (by decide) (by decide), halt_one]
theorem halt_rdn : rdC (textB (prV haltL)) (-1) = (1, []) := by unfold rdC; rw [if_pos (.inl (by decide))]
set_option maxHeartbeats 8000000 in
set_option maxRecDepth 100000 in
theorem rfSame15 (a b : List Ev) (A : Option Addr) (c : Nat) (B : Option Addr) (d : Nat) (w : World) (h : EvsAt w A c a) (k : EvsAt w B d b) :
  Calls Try.prog 10 #[.slice A a.length c, .slice B b.length d] w fun e w' => e = .returned (.bool (decide (a = b))) ∧ Below w.heap.size w w' := by
 obtain ⟨A', c', e', h1, h2, _⟩ := h.form
 simp only [Value.slice.injEq, true_and] at e'
 obtain ⟨rfl, rfl⟩ := e'
 obtain ⟨B', d', e', k1, k2, _⟩ := k.form
 simp only [Value.slice.injEq, true_and] at e'
 obtain ⟨rfl, rfl⟩ := e'
 unfold maxLen at h2 k2
 have HH := Lib.hid h
 have HK := Lib.hid k
 have HNO : Hid (a ≠ b → decide (a = b) = false) := fun h => decide_eq_false h
 have HYES : Hid (a = b → decide (a = b) = true) := fun h => decide_eq_true h
 clear h k
 by_cases hl : a.length = b.length
 case neg =>
  have e1 : ((a.length : Int) != (b.length : Int)) = true := by rw [bne_iff_ne]; omega
  have e2 : (a.length != b.length) = true := by rw [bne_iff_ne]; exact hl
  have HE := Lib.hid (HNO.out (fun e => hl (by rw [e])))
  clear HNO HYES hl
  go_enter Try.func10, Try.ntmps10
  go_wp2
  go_ret
  exact ⟨ret_bool (by rw [HE.out]), Below.refl _ _⟩
 have e1 : ((a.length : Int) != (b.length : Int)) = false := by rw [bne_eq_false_iff_eq]; omega
 have e2 : (a.length != b.length) = false := by rw [bne_eq_false_iff_eq]; exact hl
 have HLN := Lib.hid hl
 clear hl
 go_enter Try.func10, Try.ntmps10
 go_wp2_with fail
 go_loopw [5] (fun u wr => ∃ i : Nat, i ≤ a.length ∧ u = .int .i64 i ∧ Hid (a.take i = b.take i) ∧ ∃ n, wr = w.drewN n) (fun u _ => a.length - (intOf u).toNat)
 case atStart => exact ⟨0, by omega, rfl, (by show _ = _; rfl), 0, rfl⟩
 case round =>
  obtain ⟨i, hi, rfl, htk, nd, rfl⟩ := hrel
  by_cases hlt : i < a.length
  ·have hii : (i : Int) < (a.length : Int) := by omega
   have hii2 : (i : Int) < (b.length : Int) := by have := HLN.out; omega
   obtain ⟨x, hx⟩ : ∃ x, a[i]? = some x := ⟨_, List.getElem?_eq_getElem hlt⟩
   obtain ⟨y, hy⟩ : ∃ y, b[i]? = some y := ⟨_, List.getElem?_eq_getElem (by have := HLN.out; omega)⟩
   obtain ⟨b1, o1, rfl, gl1, g1⟩ := EvsAt.at_ HH.out hx
   obtain ⟨b2, o2, rfl, gl2, g2⟩ := EvsAt.at_ HK.out hy
   have x0 := g1 0 _ (by decide) rfl
   have x1 := g1 1 _ (by decide) rfl
   have x2 := g1 2 _ (by decide) rfl
   have x3 := g1 3 _ (by decide) rfl
   have x4 := g1 4 _ (by decide) rfl
   have y0 := g2 0 _ (by decide) rfl
   have y1 := g2 1 _ (by decide) rfl
   have y2 := g2 2 _ (by decide) rfl
   have y3 := g2 3 _ (by decide) rfl
   have y4 := g2 4 _ (by decide) rfl
   rw [Nat.add_zero] at x0 y0
   have hg := evGuard
   have hq := evNeq x y
   by_cases hxy : x = y
   ·have HT := Lib.hid (show a.take (i + 1) = b.take (i + 1) by rw [List.take_add_one, List.take_add_one, htk.out, hx, hy, hxy])
    rw [decide_eq_true hxy] at hq
    clear g1 g2 hx hy htk hxy
    go_wp2_with fail
    go_quiet (fail)
    go_wp2
    go_roundw
    case rel => exact ⟨i + 1, by omega, by go_num, HT, _, rfl⟩
    case measure => simp [intOf]; omega
   ·have HE := Lib.hid (HNO.out (fun e => hxy (by have h3 := hx; rw [e, hy] at h3; exact (Option.some.inj h3).symm)))
    rw [decide_eq_false hxy] at hq
    clear g1 g2 hx hy htk hxy
    go_wp2_with fail
    go_quiet (fail)
    go_wp2
    go_ret
    exact ⟨ret_bool (by rw [HE.out]), below_drewN (below_drewN (Below.refl _ _) nd) nq⟩
  ·obtain rfl : i = a.length := by omega
   have HE := Lib.hid (HYES.out (by have h1 := htk.out; have h2 := HLN.out; rw [List.take_length, h2, List.take_length] at h1; exact h1))
   have HBq := Lib.hid (below_drewN (Below.refl w.heap.size w) nd)
   clear HNO HYES
   go_wp2
   go_ret
   exact ⟨ret_bool (by rw [HE.out]), HBq.out⟩
theorem evs_lit {w : World} {g n : Nat} {cs : Array Value} (h : Lies w g 36 cs) (hn : cs.size = n * 5) (hm : n ≤ 1000000) : SeqS w 5 (.slice (some ⟨g, 0, none⟩) n n) n cs.toList := by
 refine ⟨by rw [Array.length_toList, hn], some ⟨g, 0, none⟩, n, rfl, Nat.le_refl _, by unfold maxLen; omega, (fun e => by cases e), fun k u hu => ⟨g, 0, rfl, ?_⟩⟩
 rw [Nat.zero_add, h.cell]
 simpa using hu
abbrev haltC : Array Value := #[.int .i64 0, .int .i64 14, .int .i64 0, .int .u64 0, .int .u64 0, .int .i64 0, .int .i64 14, .int .i64 0, .int .u64 0, .int .u64 0]
theorem halts21 (w : World) : Calls Try.prog 14 #[] w fun e w' => e = .returned (.slice (some ⟨w.heap.size, 0, none⟩) 2 2) ∧ EvsAt w' (some ⟨w.heap.size, 0, none⟩) 2 haltL ∧ Below w.heap.size w w' := by
 have hl := Lies.made w 36 haltC
 have HS := Lib.hid (evs_lit (n := 2) hl rfl (by decide))
 have HB := Lib.hid ((Below.refl w.heap.size w).alloc (Nat.le_refl _) (.cells haltC 36))
 clear hl
 go_enter Try.func14, Try.ntmps14
 go_wp2
 go_ret
 exact ⟨rfl, HS.out, HB.out⟩
theorem pk_small21 (bs : List UInt8) (h : bs.length ≤ 4294967296) : (pkT bs).length ≤ 1099511627776 := by
 have h1 := (enc_length bs.length).2
 have h2 := printR_le (lnT bs)
 have h3 : (lnT bs).length = 256 := lensW_length _ (cntL_length bs)
 have h4 := pkB_le (cdT bs) (lnT bs) bs
 unfold pkT
 rw [List.length_append, List.length_append, packB_length]
 omega
theorem haltL_ok : ∀ x ∈ haltL, evOk x := by
 intro x hx
 have : x = haltE := by simpa [haltL] using hx
 subst this
 exact ⟨by unfold evI64 haltE; decide, by unfold evI64 haltE; decide, by unfold evI64 haltE; decide, by decide, by decide⟩
theorem zeroE_ok : ∀ x ∈ [zeroE], evOk x := by
 intro x hx
 have : x = zeroE := by simpa using hx
 subst this
 exact ⟨by unfold evI64 zeroE; decide, by unfold evI64 zeroE; decide, by unfold evI64 zeroE; decide, by decide, by decide⟩
set_option maxHeartbeats 8000000 in
set_option maxRecDepth 100000 in
theorem awake21 (w : World) : Calls Try.prog 6 #[] w fun e w' => e = .returned (.bool true) ∧ Below w.heap.size w w' := by
 have hsv : strV haltL = [1, 0, 1, 1, 14, 1, 0, 0, 0] := by unfold strV; rw [halt_ch, if_pos rfl, halt_str]
 have hst := fun A c w h => chunkStreams haltL A c w h haltL_ok
 have hpr := fun A c w h => chunkPrint haltL A c w h haltL_ok
 have hz1 := fun A c w h => chunkStreams [zeroE] A c w h zeroE_ok
 have hz2 := fun A c w h => chunkPrint [zeroE] A c w h zeroE_ok
 rw [hsv, halt_ch, show textB [1, 0, 1, 1, 14, 1, 0, 0, 0] = ⟨#[1, 0, 1, 1, 14, 1, 0, 0, 0]⟩ from rfl] at hst
 rw [halt_ch] at hpr
 rw [show strV [zeroE] = [] by unfold strV; rw [none_ch]; rfl, none_ch] at hz1
 rw [show prV [zeroE] = [] by unfold prV; rw [none_ch]; rfl, none_ch] at hz2
 have hps : (textB (prV haltL)).size ≤ 1099511627776 := by rw [halt_pr, textB_size]; exact pk_small21 _ (by decide)
 have hun : (textB (unT (textB (prV haltL)) 4194304)).size ≤ 1099511627776 := by
  rw [halt_pr, (un_any _ (by decide) 4194304 (by decide)).2]; decide
 have hr2 := fun w => chunkRead (textB (prV haltL)) 2 w hps (by decide) hun
 have hr1 := fun w => chunkRead (textB (prV haltL)) 1 w hps (by decide) hun
 have hrn := fun w => chunkRead (textB (prV haltL)) (-1) w hps (by decide) hun
 rw [halt_rd2] at hr2
 rw [halt_rd1] at hr1
 rw [halt_rdn] at hrn
 generalize textB (prV haltL) = P at *
 have HST := Lib.hid hst
 have HPR := Lib.hid hpr
 have HZ1 := Lib.hid hz1
 have HZ2 := Lib.hid hz2
 have HR2 := Lib.hid hr2
 have HR1 := Lib.hid hr1
 have HRN := Lib.hid hrn
 clear hsv hst hpr hz1 hz2 hps hun hr2 hr1 hrn
 go_enter Try.func6, Try.ntmps6
 go_wp2_with fail
 refine (halts21 w).mono ?_
 rintro e w1 ⟨rfl, he1, hb1⟩
 have HB1 := Lib.hid hb1
 go_wp2_with fail
 refine (HST.out (some ⟨w.heap.size, 0, none⟩) 2 w1 he1).mono ?_
 rintro e w2 ⟨rfl, hb2⟩
 have HB2 := Lib.hid (then_ HB1.out hb2)
 clear he1 hb1 hb2 HB1 HST
 go_wp2_with fail
 refine (halts21 w2).mono ?_
 rintro e w3 ⟨rfl, he3, hb3⟩
 have HB3 := Lib.hid (then_ HB2.out hb3)
 go_wp2_with fail
 refine (HPR.out (some ⟨w2.heap.size, 0, none⟩) 2 w3 he3).mono ?_
 rintro e w4 ⟨rfl, hb4⟩
 have HB4 := Lib.hid (then_ HB3.out hb4)
 clear he3 hb3 hb4 HB2 HB3 HPR
 go_wp2_with fail
 refine (HR2.out w4).mono ?_
 rintro e w5 ⟨v5, rfl, ho5, hb5⟩
 have HB5 := Lib.hid (then_ HB4.out hb5)
 have HO5 := Lib.hid ho5
 obtain ⟨A5, c5, rfl⟩ := own_sl21 ho5
 clear hb5 HB4 HR2 ho5
 go_wp2_with fail
 refine (HR1.out w5).mono ?_
 rintro e w6 ⟨v6, rfl, ho6, hb6⟩
 have HB6 := Lib.hid (then_ HB5.out hb6)
 have HO6 := Lib.hid (owned_below HO5.out hb6)
 clear hb6 ho6 HB5 HO5 HR1
 go_wp2_with fail
 refine (HRN.out w6).mono ?_
 rintro e w7 ⟨v7, rfl, ho7, hb7⟩
 have HB7 := Lib.hid (then_ HB6.out hb7)
 have HO7 := Lib.hid (owned_below HO6.out hb7)
 clear hb7 ho7 HB6 HO6 HRN
 go_wp2_with fail
 have hzb1 := (Below.refl w7.heap.size w7).alloc (Nat.le_refl _) (.cells #[.int .i64 0, .int .i64 0, .int .i64 0, .int .u64 0, .int .u64 0] 36)
 have HO8 := Lib.hid (owned_below HO7.out hzb1)
 have HB8 := Lib.hid (then_ HB7.out hzb1)
 have hz8 : EvsAt (w7.alloc (.cells #[.int .i64 0, .int .i64 0, .int .i64 0, .int .u64 0, .int .u64 0] 36)) (some ⟨w7.heap.size, 0, none⟩) 1 [zeroE] := evs_lit (n := 1) (Lies.made w7 36 #[.int .i64 0, .int .i64 0, .int .i64 0, .int .u64 0, .int .u64 0]) rfl (by decide)
 clear hzb1 HO7 HB7
 refine (HZ2.out (some ⟨w7.heap.size, 0, none⟩) 1 _ hz8).mono ?_
 rintro e w9 ⟨rfl, hb9⟩
 have HO9 := Lib.hid (owned_below HO8.out hb9)
 have HB9 := Lib.hid (then_ HB8.out hb9)
 clear hz8 hb9 HO8 HB8 HZ2
 go_wp2_with fail
 have hzb1 := (Below.refl w9.heap.size w9).alloc (Nat.le_refl _) (.cells #[.int .i64 0, .int .i64 0, .int .i64 0, .int .u64 0, .int .u64 0] 36)
 have HOa := Lib.hid (owned_below HO9.out hzb1)
 have HBa := Lib.hid (then_ HB9.out hzb1)
 have hz8 : EvsAt (w9.alloc (.cells #[.int .i64 0, .int .i64 0, .int .i64 0, .int .u64 0, .int .u64 0] 36)) (some ⟨w9.heap.size, 0, none⟩) 1 [zeroE] := evs_lit (n := 1) (Lies.made w9 36 #[.int .i64 0, .int .i64 0, .int .i64 0, .int .u64 0, .int .u64 0]) rfl (by decide)
 clear hzb1 HO9 HB9
 refine (HZ1.out (some ⟨w9.heap.size, 0, none⟩) 1 _ hz8).mono ?_
 rintro e wb ⟨rfl, hbb⟩
 have HOb := Lib.hid (owned_below HOa.out hbb)
 have HBb := Lib.hid (then_ HBa.out hbb)
 clear hz8 hbb HOa HBa HZ1
 go_wp2_with fail
 refine (halts21 wb).mono ?_
 rintro e wc ⟨rfl, hec, hbc⟩
 have HOc := Lib.hid (owned_below HOb.out hbc)
 have HBc := Lib.hid (then_ HBb.out hbc)
 have HEC := Lib.hid hec
 clear hec hbc HOb HBb
 go_wp2_with fail
 refine (rfSame15 haltL haltL A5 c5 (some ⟨wb.heap.size, 0, none⟩) 2 wc (SeqS.of_owns HOc.out) HEC.out).mono ?_
 rintro e wd ⟨rfl, hbd⟩
 have HBd := Lib.hid (then_ HBc.out hbd)
 have hdd : decide (haltL = haltL) = true := decide_eq_true rfl
 rw [hdd]
 clear hbd HOc HBc HEC hdd
 go_wp2_with fail
 go_ret
 exact ⟨rfl, HBd.out⟩
theorem enc_mono {a b : Nat} (h : a ≤ b) : (enc a).length ≤ (enc b).length := leb_mono 9 a b h
theorem packs_same (x m : Nat) : packs (List.replicate (m + 1) x) = [(x, 1 + m)] := by
 unfold packs
 rw [List.replicate_succ, List.foldl_cons, pushRun_nil]
 have := push_rep [] x 1 m
 rwa [List.nil_append, List.nil_append] at this
theorem printR_same {x m : Nat} (hx : x ≤ 15) (hm : m ≤ 2000) : (printR (List.replicate (m + 1) x)).length ≤ 4 := by
 unfold printR
 rw [packs_same, List.length_append]
 have h1 : (enc [(x, 1 + m)].length).length = 1 := by show (enc 1).length = 1; decide +kernel
 have h2 : (enc x).length ≤ 1 := Nat.le_trans (enc_mono hx) (by decide +kernel)
 have h3 : (enc m).length ≤ 2 := Nat.le_trans (enc_mono hm) (by decide +kernel)
 have h4 : (bodyR [(x, 1 + m)]).length = (enc x).length + (enc m).length := by
  unfold bodyR
  rw [List.flatMap_cons, List.flatMap_nil, List.append_nil, List.length_append, Nat.add_sub_cancel_left]
 omega
theorem printR_none : (printR []).length ≤ 4 := by decide +kernel
theorem selN_same (u : Int → Bool) (f : Ev → Nat) (x : Ev) (m : Nat) : selN u f (List.replicate (m + 1) x) = if u x.kd = true then List.replicate (m + 1) (f x) else [] := by
 unfold selN
 rw [List.filter_replicate]
 split
 ·rw [List.map_replicate]
 ·rfl
theorem thrS_same {x : Ev} {m : Nat} (hr : rightE x = true) (ht : ticketB x.kd = false) (hv : valueB x.kd = false) (hm : m ≤ 2000) : (thrS (List.replicate (m + 1) x)).length ≤ 12 := by
 have hi := right_in hr
 unfold thrS
 rw [List.length_append, List.length_append, List.length_append]
 have h1 : (printR (selN allU kdF (List.replicate (m + 1) x))).length ≤ 4 := by
  rw [selN_same, if_pos (show allU x.kd = true from rfl)]; exact printR_same (by unfold kdF; omega) hm
 have h2 : (printR (selN ringB rgF (List.replicate (m + 1) x))).length ≤ 4 := by
  rw [selN_same]
  split
  ·exact printR_same (by unfold rgF; omega) hm
  ·exact printR_none
 have h3 : (encList (deltas 0 (selN ticketB tkF (List.replicate (m + 1) x)))).length = 1 := by
  rw [selN_same, ht, if_neg (by decide)]; decide +kernel
 have h4 : (encList (deltas 0 (selN valueB vlF (List.replicate (m + 1) x)))).length = 1 := by
  rw [selN_same, hv, if_neg (by decide)]; decide +kernel
 omega
theorem strT_same {x : Ev} {m : Nat} (hr : rightE x = true) (ht : ticketB x.kd = false) (hv : valueB x.kd = false) (hm : m ≤ 2000) (t : Nat) : (strT (List.replicate (m + 1) x) t).length ≤ if x.th = (t : Int) then 12 else 0 := by
 have ho : ownE (List.replicate (m + 1) x) (t : Int) = if x.th = (t : Int) then List.replicate (m + 1) x else [] := by
  unfold ownE
  rw [List.filter_replicate]
  by_cases h : x.th = (t : Int)
  ·rw [if_pos h, if_pos (decide_eq_true h)]
  ·rw [if_neg h, if_neg (by rw [decide_eq_false h]; decide)]
 unfold strT
 rw [ho]
 by_cases h : x.th = (t : Int)
 ·rw [if_pos h, if_pos h, if_neg (by rw [List.length_replicate]; omega)]
  exact thrS_same hr ht hv hm
 ·rw [if_neg h, if_neg h]; simp
theorem strK_same {x : Ev} {m : Nat} (hr : rightE x = true) (ht : ticketB x.kd = false) (hv : valueB x.kd = false) (hm : m ≤ 2000) : ∀ k : Nat, (strK (List.replicate (m + 1) x) k).length ≤ 4 + if x.th < (k : Int) then 12 else 0
 | 0 => by
  have hi := right_in hr
  show (printR ((List.replicate (m + 1) x).map thF)).length ≤ _
  rw [List.map_replicate]
  have := printR_same (x := thF x) (m := m) (by unfold thF; omega) hm
  omega
 | k + 1 => by
  have h1 := strK_same hr ht hv hm k
  have h2 := strT_same hr ht hv hm k
  show (strK _ k ++ strT _ k).length ≤ _
  rw [List.length_append]
  split at h1 <;> split at h2 <;> split <;> omega
theorem strS_same {x : Ev} {m : Nat} (hr : rightE x = true) (ht : ticketB x.kd = false) (hv : valueB x.kd = false) (hm : m ≤ 2000) : (strS (List.replicate (m + 1) x)).length ≤ 40 := by
 have := strK_same hr ht hv hm 8
 unfold strS
 split at this <;> omega
theorem chE_same {x : Ev} {m : Nat} (hr : rightE x = true) (hm : m ≤ 2000) : chE (List.replicate (m + 1) x) = (0, 0) :=
 chE_ok (by rw [List.length_replicate]; omega) (fun y hy => by rw [(List.mem_replicate.1 hy).2]; exact hr)
theorem list5v {l : List Value} (h : l.length = 5) : ∃ a b c d e, l = [a, b, c, d, e] := by
 match l, h with
 | [a, b, c, d, e], _ => exact ⟨a, b, c, d, e, rfl⟩
section
variable {W : World} {H : Type} {enc : TypeId × Value → H}
set_option maxRecDepth 100000 in
theorem ev_open {n : Nat} {cs : List Value} {y : DataW H × List MemPlace} (hl : cs.length = 5) (h : DataW.trod enc Try.prog W 0 (fun _ => true) true n 36 cs = some y) : ∃ x : Ev, cs = evF x ∧ evOk x := by
 obtain ⟨z0, g0, b0⟩ := int_field (i := 0) (k := .i64) Try.underlying36 h rfl ⟨Try.underlying3, rfl, by kernel_rfl⟩
 obtain ⟨z1, g1, b1⟩ := int_field (i := 1) (k := .i64) Try.underlying36 h rfl ⟨Try.underlying3, rfl, by kernel_rfl⟩
 obtain ⟨z2, g2, b2⟩ := int_field (i := 2) (k := .i64) Try.underlying36 h rfl ⟨Try.underlying3, rfl, by kernel_rfl⟩
 obtain ⟨z3, g3, b3⟩ := int_field (i := 3) (k := .u64) Try.underlying36 h rfl ⟨Try.underlying34, rfl, by kernel_rfl⟩
 obtain ⟨z4, g4, b4⟩ := int_field (i := 4) (k := .u64) Try.underlying36 h rfl ⟨Try.underlying34, rfl, by kernel_rfl⟩
 have c3 := Go.bounds_u64 b3
 have c4 := Go.bounds_u64 b4
 obtain ⟨x0, x1, x2, x3, x4, rfl⟩ := list5v hl
 simp at g0 g1 g2 g3 g4
 subst g0 g1 g2 g3 g4
 refine ⟨⟨z0, z1, z2, z3.toNat, z4.toNat⟩, ?_, Go.bounds_i64 b0, Go.bounds_i64 b1, Go.bounds_i64 b2, ?_, ?_⟩
 ·unfold evF; simp only
  rw [show ((z3.toNat : Nat) : Int) = z3 by omega, show ((z4.toNat : Nat) : Int) = z4 by omega]
 ·simp only; omega
 ·simp only; omega
set_option maxRecDepth 100000 in
theorem opened36 {base : Nat} {v : Value} {d : DataW H} {p : List MemPlace}
  (hok : Value.okWide Try.prog W .any base 36 v) (h : DataW.Trod enc Try.prog W 0 (fun _ => true) true 36 v d p) :
  ∃ z : Ev, v = .agg (evC z) ∧ evOk z := by
 obtain ⟨cs, rfl, hl⟩ := WideShapes.okWide_struct Try.underlying36 hok
 obtain ⟨n, h⟩ := h
 obtain ⟨x, hx, ho⟩ := ev_open (cs := cs.toList) (by rw [Array.length_toList, hl]; kernel_rfl) h
 refine ⟨x, ?_, ho⟩
 rw [show evC x = cs from Array.toList_inj.1 hx.symm]
end
theorem nms_cases (k : Int) : (nmsB k = ⟨#[82, 84]⟩) ∨ (nmsB k = ⟨#[82]⟩ ∧ ticketB k = false ∧ valueB k = false) ∨ (nmsB k = ⟨#[86]⟩) ∨ (nmsB k = ⟨#[]⟩ ∧ ticketB k = false ∧ valueB k = false) := by
 unfold nmsB
 by_cases h1 : ticketB k = true
 ·rw [if_pos h1]; exact .inl rfl
 ·rw [if_neg h1]
  have h1' : ticketB k = false := by simpa using h1
  by_cases h2 : ringB k = true
  ·rw [if_pos h2]
   refine .inr (.inl ⟨rfl, h1', ?_⟩)
   unfold ringB at h2
   rw [h1'] at h2
   simp only [Bool.false_or, Bool.or_eq_true, beq_iff_eq] at h2
   unfold valueB
   rcases h2 with rfl | rfl | rfl <;> decide
  ·rw [if_neg h2]
   by_cases h3 : valueB k = true
   ·rw [if_pos h3]; exact .inr (.inr (.inl rfl))
   ·rw [if_neg h3]; exact .inr (.inr (.inr ⟨rfl, h1', by simpa using h3⟩))
set_option maxHeartbeats 8000000 in
set_option maxRecDepth 100000 in
theorem short_walk (x : Ev) (n : Int) (w : World) (hx : evOk x) (wn : (Lit.int .u16 n).wf = true) :
  Calls Try.prog 5 #[.agg (evC x), .int .u16 n] w fun e w' => e = .returned (.bool true) ∧ Below w.heap.size w w' := by
 have hn := bounds_u16 wn
 clear wn
 obtain ⟨M, rfl⟩ : ∃ M : Nat, n = (M : Int) := ⟨n.toNat, by omega⟩
 have hb0 := (Below.refl w.heap.size w).alloc (Nat.le_refl _) (.cells (evC x) 36)
 have HL0 := Lib.hid (Lies.made w 36 (evC x))
 have HB0 := Lib.hid hb0
 have HRT := Lib.hid (fun w => rfRight15 x w)
 have HNM := Lib.hid (fun w => rfNames x.kd w)
 obtain ⟨rb, hrb⟩ : ∃ b, rightE x = b := ⟨_, rfl⟩
 have HRB := Lib.hid hrb
 rw [hrb] at HRT
 have hnms := nms_cases x.kd
 obtain ⟨N, hN⟩ : ∃ N, nmsB x.kd = N := ⟨_, rfl⟩
 rw [hN] at HNM hnms
 have HNC := Lib.hid hnms
 clear hb0 hrb hN hnms
 go_enter Try.func5, Try.ntmps5
 go_upto_region 1 with (fail)
 obtain ⟨q, hq⟩ : ∃ q, q = w.heap.size := ⟨_, rfl⟩
 rw [← hq] at HL0 ⊢
 clear hq
 generalize w.alloc (.cells (evC x) 36) = w0 at *
 go_wp2_with fail
 refine (awake21 w0).mono ?_
 rintro e w1 ⟨rfl, hb1⟩
 have HL1 := Lib.hid (HL0.out.below hb1 HL0.out.lt)
 have HB1 := Lib.hid (HB0.out.trans (hb1.mono HB0.out.size))
 clear hb1 HL0 HB0
 have d0 := (HL1.out.cell 0).trans (show _ = some (Value.int .i64 x.th) from rfl)
 have d1 := (HL1.out.cell 1).trans (show _ = some (Value.int .i64 x.kd) from rfl)
 have d2 := (HL1.out.cell 2).trans (show _ = some (Value.int .i64 x.rg) from rfl)
 have d3 := (HL1.out.cell 3).trans (show _ = some (Value.int .u64 (x.tk : Int)) from rfl)
 have d4 := (HL1.out.cell 4).trans (show _ = some (Value.int .u64 (x.vl : Int)) from rfl)
 have ql := HL1.out.lt
 go_wp2_with fail
 refine (HRT.out w1).mono ?_
 rintro e w2 ⟨rfl, hb2⟩
 have HL2 := Lib.hid (HL1.out.below hb2 HL1.out.lt)
 have HB2 := Lib.hid (HB1.out.trans (hb2.mono HB1.out.size))
 clear hb2 HL1 HB1 d0 d1 d2 d3 d4 ql
 have d1 := (HL2.out.cell 1).trans (show _ = some (Value.int .i64 x.kd) from rfl)
 have ql := HL2.out.lt
 cases rb with
 | false =>
  go_wp2_with fail
  refine (awake21 w2).mono ?_
  rintro e w3 ⟨rfl, hb3⟩
  have HB3 := Lib.hid (HB2.out.trans (hb3.mono HB2.out.size))
  clear hb3
  go_wp2
  go_ret
  exact ⟨rfl, HB3.out⟩
 | true =>
  go_wp2_with fail
  refine (HNM.out w2).mono ?_
  rintro e w3 ⟨rfl, rfl⟩
  rcases HNC.out with rfl | ⟨rfl, ht, hv⟩ | rfl | ⟨rfl, ht, hv⟩
  ·clear HNC
   go_wp2_with fail
   refine (HNM.out w2).mono ?_
   rintro e w3 ⟨rfl, rfl⟩
   go_wp2_with fail
   refine (awake21 w2).mono ?_
   rintro e w4 ⟨rfl, hb4⟩
   have HB4 := Lib.hid (HB2.out.trans (hb4.mono HB2.out.size))
   clear hb4
   go_wp2
   go_ret
   exact ⟨rfl, HB4.out⟩
  ·clear HNC
   go_wp2_with fail
   refine (HNM.out w2).mono ?_
   rintro e w3 ⟨rfl, rfl⟩
   clear d1 ql HRT HNM
   obtain ⟨m, hm⟩ : ∃ m, m = M % 2000 := ⟨_, rfl⟩
   have hm2 : m ≤ 2000 := by omega
   obtain ⟨K, hK⟩ : ∃ K, K = m + 1 := ⟨_, rfl⟩
   have hcast : (M : Int) % 2000 + 1 = (K : Int) := by omega
   have hmk := run_make_rowS (P := Try.prog) 22 36 (.agg #[.int .i64 0, .int .i64 0, .int .i64 0, .int .u64 0, .int .u64 0]) 5 40 Try.underlying22 infoEv21 .i64 .i64 K (by omega) (by omega) w2
   rw [← hcast] at hmk
   have ho0 := owned_rows evF_length (by decide) w2 36 zeroE #[.int .i64 0, .int .i64 0, .int .i64 0, .int .u64 0, .int .u64 0] rfl K (by unfold maxLen; omega)
   have hb0 := (Below.refl w2.heap.size w2).alloc (Nat.le_refl _) (.cells (madeCells #[.int .i64 0, .int .i64 0, .int .i64 0, .int .u64 0, .int .u64 0] (K * 5)) 36)
   have HO3 := Lib.hid ho0
   have HL3 := Lib.hid (HL2.out.below hb0 HL2.out.lt)
   have HB3 := Lib.hid (HB2.out.trans (hb0.mono HB2.out.size))
   have hqB := HL2.out.lt
   have hwB := HB2.out.size
   have HMM := Lib.hid (And.intro hm2 hK)
   clear ho0 hb0 HL2 HB2 hcast hm hm2
   have hK2 : K ≤ 2001 := by have := HMM.out.1; omega
   clear hK
   go_wp2_with fail
   clear hmk
   obtain ⟨B, hB⟩ : ∃ B, B = w2.heap.size := ⟨_, rfl⟩
   rw [← hB] at HO3 hqB hwB ⊢
   clear hB
   generalize w2.alloc (.cells (madeCells #[.int .i64 0, .int .i64 0, .int .i64 0, .int .u64 0, .int .u64 0] (K * 5)) 36) = w5 at *
   go_loopw [36] (fun t wr => ∃ k : Nat, k ≤ K ∧ t = .int .i64 k ∧ Hid (wr.ownsRow B 36 5 (.slice (some ⟨B, 0, none⟩) K K) K (rowsOf evF (List.replicate k x ++ List.replicate (K - k) zeroE))) ∧ Hid (Lies wr q 36 (evC x)) ∧ Hid (Below w.heap.size w wr)) (fun t _ => K - (intOf t).toNat)
   case atStart => exact ⟨0, by omega, rfl, HO3.out, HL3.out, HB3.out⟩
   case round =>
    clear HO3 HL3 HB3
    obtain ⟨k, hk, rfl, ho, hl, hb⟩ := hrel
    by_cases hlt : k < K
    ·have hki : (k : Int) < (K : Int) := by omega
     have d0 := (hl.out.cell 0).trans (show _ = some (Value.int .i64 x.th) from rfl)
     have d1 := (hl.out.cell 1).trans (show _ = some (Value.int .i64 x.kd) from rfl)
     have d2 := (hl.out.cell 2).trans (show _ = some (Value.int .i64 x.rg) from rfl)
     have d3 := (hl.out.cell 3).trans (show _ = some (Value.int .u64 (x.tk : Int)) from rfl)
     have d4 := (hl.out.cell 4).trans (show _ = some (Value.int .u64 (x.vl : Int)) from rfl)
     have ql := hl.out.lt
     have hlen : (List.replicate k x ++ List.replicate (K - k) zeroE).length = K := by simp; omega
     have hset : (List.replicate k x ++ List.replicate (K - k) zeroE).set k x = List.replicate (k + 1) x ++ List.replicate (K - (k + 1)) zeroE := by
      rw [List.set_append_right _ _ (by simp), List.length_replicate, Nat.sub_self, show K - k = (K - (k + 1)) + 1 by omega, List.replicate_succ, List.set_cons_zero, List.replicate_succ', List.append_assoc]; rfl
     have hLq : wr.ownsRow B 36 5 (.slice (some ⟨B, 0, none⟩) K K) (List.replicate k x ++ List.replicate (K - k) zeroE).length (rowsOf evF (List.replicate k x ++ List.replicate (K - k) zeroE)) := by rw [hlen]; exact ho.out
     obtain ⟨r9, cap9, e9, _, _, hth, hst9⟩ := owns_setCells evF_length hLq (i := k) (by rw [hlen]; exact hlt) x
     have hr9 : B = r9 := by
      simp only [Value.slice.injEq, Option.some.injEq, Addr.mk.injEq, and_true] at e9
      exact e9.1
     subst hr9
     rw [hset, hlen] at hst9
     obtain ⟨Y, hY⟩ : ∃ Y, Y = evC x := ⟨_, rfl⟩
     have hsz9 : Y.size = 5 := by rw [hY]; rfl
     have htl : evF x = Y.toList := by rw [hY]; rfl
     have hth2 : wr.there B (k * 5) Y.size := by rw [hsz9]; exact hth
     have hin9 : (Try.prog.info? 36).map (·.size) = some Y.size := by rw [hsz9]; exact infoEvSz
     have hone : Y.all (·.oneCell') = true := by rw [hY]; simp [Value.oneCell']
     have hkc := kept_cells (g := B) (evF x) (k * 5) wr
     rw [htl] at hkc hst9
     have HO6 := Lib.hid hst9
     have HL6 := Lib.hid (hl.out.kept hkc (fun (e : q = B) => by omega))
     have HB6 := Lib.hid (hb.out.trans (hkc.below (B := w.heap.size) hb.out.size (fun j hj (e : j = B) => by omega)))
     clear hlen hset hLq e9 hth hst9 hkc htl hsz9 ho hl hb
     go_upto_region 8 with (refine wpList_store_mid rfl 36 _ _ rfl B (k * 5) Y rfl (by rw [hY]; rfl) hth2 hin9 hone ?_)
     clear hth2 hin9 hone hY d0 d1 d2 d3 d4 ql
     generalize wr.setCells B (k * 5) Y.toList = w8 at *
     go_wp2
     go_roundw
     case rel => exact ⟨k + 1, by omega, by go_num, HO6, HL6, HB6⟩
     case measure => simp [intOf]; omega
    ·obtain rfl : K = k := by omega
     have ho2 := ho.out
     rw [Nat.sub_self, List.replicate_zero, List.append_nil] at ho2
     have hKm := HMM.out.2
     have hEV : EvsAt wr (some ⟨B, 0, none⟩) K (List.replicate (m + 1) x) := by
      show SeqS wr 5 (.slice (some ⟨B, 0, none⟩) (List.replicate (m + 1) x).length K) (List.replicate (m + 1) x).length _
      rw [List.length_replicate, ← hKm]; exact SeqS.of_owns ho2
     have hCS := chunkStreams (List.replicate (m + 1) x) (some ⟨B, 0, none⟩) K wr hEV (fun y hy => by rw [(List.mem_replicate.1 hy).2]; exact hx)
     have hch := chE_same HRB.out HMM.out.1
     have hsv : strV (List.replicate (m + 1) x) = strS (List.replicate (m + 1) x) := by unfold strV; rw [hch, if_pos rfl]
     have hle := strS_same HRB.out ht hv HMM.out.1
     rw [hch, hsv, List.length_replicate, ← hKm] at hCS
     obtain ⟨S, hS⟩ : ∃ S, S = textB (strS (List.replicate (m + 1) x)) := ⟨_, rfl⟩
     have hSl : S.size ≤ 40 := by rw [hS, textB_size]; exact hle
     rw [← hKm] at hS
     rw [← hS] at hCS
     have y1 : decide ((S.size : Int) ≤ 40) = true := by simp; omega
     have y2 : decide (S.size ≤ 40) = true := by simpa using hSl
     have HCS := Lib.hid hCS
     clear hCS hch hsv hle hS hEV ho2 ho hl hKm
     go_wp2_with fail
     refine HCS.out.mono ?_
     rintro e w9 ⟨rfl, hb9⟩
     have HB9 := Lib.hid (hb.out.trans (hb9.mono hb.out.size))
     clear hb9 HCS
     go_wp2_with fail
     go_ret
     exact ⟨rfl, HB9.out⟩
  ·clear HNC
   go_wp2_with fail
   refine (HNM.out w2).mono ?_
   rintro e w3 ⟨rfl, rfl⟩
   go_wp2_with fail
   refine (awake21 w2).mono ?_
   rintro e w4 ⟨rfl, hb4⟩
   have HB4 := Lib.hid (HB2.out.trans (hb4.mono HB2.out.size))
   clear hb4
   go_wp2
   go_ret
   exact ⟨rfl, HB4.out⟩
  ·clear HNC
   clear d1 ql HRT HNM
   obtain ⟨m, hm⟩ : ∃ m, m = M % 2000 := ⟨_, rfl⟩
   have hm2 : m ≤ 2000 := by omega
   obtain ⟨K, hK⟩ : ∃ K, K = m + 1 := ⟨_, rfl⟩
   have hcast : (M : Int) % 2000 + 1 = (K : Int) := by omega
   have hmk := run_make_rowS (P := Try.prog) 22 36 (.agg #[.int .i64 0, .int .i64 0, .int .i64 0, .int .u64 0, .int .u64 0]) 5 40 Try.underlying22 infoEv21 .i64 .i64 K (by omega) (by omega) w2
   rw [← hcast] at hmk
   have ho0 := owned_rows evF_length (by decide) w2 36 zeroE #[.int .i64 0, .int .i64 0, .int .i64 0, .int .u64 0, .int .u64 0] rfl K (by unfold maxLen; omega)
   have hb0 := (Below.refl w2.heap.size w2).alloc (Nat.le_refl _) (.cells (madeCells #[.int .i64 0, .int .i64 0, .int .i64 0, .int .u64 0, .int .u64 0] (K * 5)) 36)
   have HO3 := Lib.hid ho0
   have HL3 := Lib.hid (HL2.out.below hb0 HL2.out.lt)
   have HB3 := Lib.hid (HB2.out.trans (hb0.mono HB2.out.size))
   have hqB := HL2.out.lt
   have hwB := HB2.out.size
   have HMM := Lib.hid (And.intro hm2 hK)
   clear ho0 hb0 HL2 HB2 hcast hm hm2
   have hK2 : K ≤ 2001 := by have := HMM.out.1; omega
   clear hK
   go_wp2_with fail
   clear hmk
   obtain ⟨B, hB⟩ : ∃ B, B = w2.heap.size := ⟨_, rfl⟩
   rw [← hB] at HO3 hqB hwB ⊢
   clear hB
   generalize w2.alloc (.cells (madeCells #[.int .i64 0, .int .i64 0, .int .i64 0, .int .u64 0, .int .u64 0] (K * 5)) 36) = w5 at *
   go_loopw [36] (fun t wr => ∃ k : Nat, k ≤ K ∧ t = .int .i64 k ∧ Hid (wr.ownsRow B 36 5 (.slice (some ⟨B, 0, none⟩) K K) K (rowsOf evF (List.replicate k x ++ List.replicate (K - k) zeroE))) ∧ Hid (Lies wr q 36 (evC x)) ∧ Hid (Below w.heap.size w wr)) (fun t _ => K - (intOf t).toNat)
   case atStart => exact ⟨0, by omega, rfl, HO3.out, HL3.out, HB3.out⟩
   case round =>
    clear HO3 HL3 HB3
    obtain ⟨k, hk, rfl, ho, hl, hb⟩ := hrel
    by_cases hlt : k < K
    ·have hki : (k : Int) < (K : Int) := by omega
     have d0 := (hl.out.cell 0).trans (show _ = some (Value.int .i64 x.th) from rfl)
     have d1 := (hl.out.cell 1).trans (show _ = some (Value.int .i64 x.kd) from rfl)
     have d2 := (hl.out.cell 2).trans (show _ = some (Value.int .i64 x.rg) from rfl)
     have d3 := (hl.out.cell 3).trans (show _ = some (Value.int .u64 (x.tk : Int)) from rfl)
     have d4 := (hl.out.cell 4).trans (show _ = some (Value.int .u64 (x.vl : Int)) from rfl)
     have ql := hl.out.lt
     have hlen : (List.replicate k x ++ List.replicate (K - k) zeroE).length = K := by simp; omega
     have hset : (List.replicate k x ++ List.replicate (K - k) zeroE).set k x = List.replicate (k + 1) x ++ List.replicate (K - (k + 1)) zeroE := by
      rw [List.set_append_right _ _ (by simp), List.length_replicate, Nat.sub_self, show K - k = (K - (k + 1)) + 1 by omega, List.replicate_succ, List.set_cons_zero, List.replicate_succ', List.append_assoc]; rfl
     have hLq : wr.ownsRow B 36 5 (.slice (some ⟨B, 0, none⟩) K K) (List.replicate k x ++ List.replicate (K - k) zeroE).length (rowsOf evF (List.replicate k x ++ List.replicate (K - k) zeroE)) := by rw [hlen]; exact ho.out
     obtain ⟨r9, cap9, e9, _, _, hth, hst9⟩ := owns_setCells evF_length hLq (i := k) (by rw [hlen]; exact hlt) x
     have hr9 : B = r9 := by
      simp only [Value.slice.injEq, Option.some.injEq, Addr.mk.injEq, and_true] at e9
      exact e9.1
     subst hr9
     rw [hset, hlen] at hst9
     obtain ⟨Y, hY⟩ : ∃ Y, Y = evC x := ⟨_, rfl⟩
     have hsz9 : Y.size = 5 := by rw [hY]; rfl
     have htl : evF x = Y.toList := by rw [hY]; rfl
     have hth2 : wr.there B (k * 5) Y.size := by rw [hsz9]; exact hth
     have hin9 : (Try.prog.info? 36).map (·.size) = some Y.size := by rw [hsz9]; exact infoEvSz
     have hone : Y.all (·.oneCell') = true := by rw [hY]; simp [Value.oneCell']
     have hkc := kept_cells (g := B) (evF x) (k * 5) wr
     rw [htl] at hkc hst9
     have HO6 := Lib.hid hst9
     have HL6 := Lib.hid (hl.out.kept hkc (fun (e : q = B) => by omega))
     have HB6 := Lib.hid (hb.out.trans (hkc.below (B := w.heap.size) hb.out.size (fun j hj (e : j = B) => by omega)))
     clear hlen hset hLq e9 hth hst9 hkc htl hsz9 ho hl hb
     go_upto_region 8 with (refine wpList_store_mid rfl 36 _ _ rfl B (k * 5) Y rfl (by rw [hY]; rfl) hth2 hin9 hone ?_)
     clear hth2 hin9 hone hY d0 d1 d2 d3 d4 ql
     generalize wr.setCells B (k * 5) Y.toList = w8 at *
     go_wp2
     go_roundw
     case rel => exact ⟨k + 1, by omega, by go_num, HO6, HL6, HB6⟩
     case measure => simp [intOf]; omega
    ·obtain rfl : K = k := by omega
     have ho2 := ho.out
     rw [Nat.sub_self, List.replicate_zero, List.append_nil] at ho2
     have hKm := HMM.out.2
     have hEV : EvsAt wr (some ⟨B, 0, none⟩) K (List.replicate (m + 1) x) := by
      show SeqS wr 5 (.slice (some ⟨B, 0, none⟩) (List.replicate (m + 1) x).length K) (List.replicate (m + 1) x).length _
      rw [List.length_replicate, ← hKm]; exact SeqS.of_owns ho2
     have hCS := chunkStreams (List.replicate (m + 1) x) (some ⟨B, 0, none⟩) K wr hEV (fun y hy => by rw [(List.mem_replicate.1 hy).2]; exact hx)
     have hch := chE_same HRB.out HMM.out.1
     have hsv : strV (List.replicate (m + 1) x) = strS (List.replicate (m + 1) x) := by unfold strV; rw [hch, if_pos rfl]
     have hle := strS_same HRB.out ht hv HMM.out.1
     rw [hch, hsv, List.length_replicate, ← hKm] at hCS
     obtain ⟨S, hS⟩ : ∃ S, S = textB (strS (List.replicate (m + 1) x)) := ⟨_, rfl⟩
     have hSl : S.size ≤ 40 := by rw [hS, textB_size]; exact hle
     rw [← hKm] at hS
     rw [← hS] at hCS
     have y1 : decide ((S.size : Int) ≤ 40) = true := by simp; omega
     have y2 : decide (S.size ≤ 40) = true := by simpa using hSl
     have HCS := Lib.hid hCS
     clear hCS hch hsv hle hS hEV ho2 ho hl hKm
     go_wp2_with fail
     refine HCS.out.mono ?_
     rintro e w9 ⟨rfl, hb9⟩
     have HB9 := Lib.hid (hb.out.trans (hb9.mono hb.out.size))
     clear hb9 HCS
     go_wp2_with fail
     go_ret
     exact ⟨rfl, HB9.out⟩
end Go.Proofs.Ytmadgdmiipgjoaa
