import Derived.Test.YtmadgdmiipgjoaaGreatZz7
namespace Go.Proofs.YtmadgdmiipgjoaaGreat
open Go.RowKit
set_option linter.unusedVariables false
set_option linter.unusedSimpArgs false
theorem bitsN_top (c m : Nat) : bitsN c (m + 1) = decide (c / 2 ^ m % 2 = 1) :: bitsN c m := by
 apply List.ext_getElem?
 intro i
 by_cases hi : i < m + 1
 ·rw [bitsN_get _ _ _ hi]
  cases i with
  | zero => simp
  | succ i =>
   rw [List.getElem?_cons_succ, bitsN_get _ _ _ (by omega)]
   rw [show m + 1 - 1 - (i + 1) = m - 1 - i by omega]
 ·rw [List.getElem?_eq_none (by rw [bitsN_length]; omega), List.getElem?_eq_none (by rw [List.length_cons, bitsN_length]; omega)]
theorem nx_run {ls : List Nat} {k c : Nat} (h1 : fcN ls k ≤ c) (h2 : c < fcN ls k + ls.count k) (hk : 0 < k) (t : List Bool) : ∀ (m j f a : Nat), j + m = k → 0 < j → m < f → 2 * a + fcN ls j = 2 * (c / 2 ^ (m + 1)) →
  nxS ls f j a (bitsN c (m + 1) ++ t) = (some (pre ls k + (c - fcN ls k)), m + 1)
 | m, j, 0, a, hj, hj0, hf, ha => by omega
 | m, j, f + 1, a, hj, hj0, hf, ha => by
  rw [bitsN_top, List.cons_append, nxS]
  have hb : 2 * (c / 2 ^ (m + 1)) + (decide (c / 2 ^ m % 2 = 1)).toNat = c / 2 ^ m := by
   rw [Nat.pow_succ, ← Nat.div_div_eq_div_mul]
   by_cases h : c / 2 ^ m % 2 = 1
   ·rw [decide_eq_true h]; show _ + 1 = _; omega
   ·rw [decide_eq_false h]; show _ + 0 = _; omega
  generalize (decide (c / 2 ^ m % 2 = 1)).toNat = bt at *
  cases m with
  | zero =>
   rw [Nat.pow_zero, Nat.div_one] at hb
   obtain rfl : j = k := by omega
   rw [if_pos (by omega)]
   rw [show 2 * a + bt = c - fcN ls j by omega]
  | succ m =>
   have hfar := fcN_far ls (m + 1) j hj0
   rw [if_neg (show ¬ m + 1 = 0 by omega), Nat.mul_one, hj] at hfar
   have hge : fcN ls j + ls.count j ≤ c / 2 ^ (m + 1) := by
    rw [Nat.le_div_iff_mul_le (Nat.two_pow_pos _), Nat.mul_comm]; omega
   rw [if_neg (by omega)]
   have ih := nx_run h1 h2 hk t m (j + 1) f (2 * a + bt - ls.count j) (by omega) (by omega) (by omega) (by
    rw [fcN, if_neg (show ¬ j = 0 by omega)]; omega)
   rw [ih]
theorem nx_code {ls : List Nat} {k c : Nat} (h1 : fcN ls k ≤ c) (h2 : c < fcN ls k + ls.count k) (h2' : c < 2 ^ k) (hk : 0 < k) (hk56 : k ≤ 56) (t : List Bool) :
  nxS ls 56 1 0 (bitsN c k ++ t) = (some (pre ls k + (c - fcN ls k)), k) := by
 obtain ⟨m, rfl⟩ : ∃ m, k = m + 1 := ⟨k - 1, by omega⟩
 exact nx_run h1 h2 hk t m 1 56 0 (by omega) (by omega) (by omega) (by
  rw [Nat.div_eq_of_lt h2']
  show 2 * 0 + 2 * (0 + 0) = _
  rfl)
theorem nx_byte {ls : List Nat} (hl : ls.length = 256) (h56 : ∀ x ∈ ls, x ≤ 56) (hs : shr ls 256 ≤ 2 ^ 56) {i k : Nat} (hi : ls[i]? = some k) (hk : 0 < k) (t : List Bool) :
  ∃ p, nxS ls 56 1 0 (putL ((codL ls).getD i 0) k ++ t) = (some p, k) ∧ (byL ls).getD p 0 = i := by
 obtain ⟨hc, hlt⟩ := codL_get hl h56 hs hi hk
 have hct := ct_lt_all hi
 have hk56 := h56 k (List.mem_of_getElem? hi)
 have hil := (List.getElem?_eq_some_iff.1 hi).1
 refine ⟨pre ls k + ct ls k i, ?_, ?_⟩
 ·unfold putL
  rw [if_pos (by omega), hc, nx_code (by omega) (by omega) (by omega) hk hk56, Nat.add_sub_cancel_left]
 ·have := (byL_ok hl h56).2 i k (by omega) hi hk
  exact getD_of this
theorem dc_back {ls : List Nat} (hl : ls.length = 256) (h56 : ∀ x ∈ ls, x ≤ 56) (hs : shr ls 256 ≤ 2 ^ 56) (L : List Bool) : ∀ (bs : List UInt8) (i : Nat) (t : List Bool),
  (∀ b ∈ bs, 0 < ls.getD b.toNat 0) → L.drop i = pkB (codL ls) ls bs ++ t → i ≤ L.length → dcD ls L bs.length i = (bs, i + (pkB (codL ls) ls bs).length, true)
 | [], i, t, _, _, _ => by rw [List.length_nil, dcD_zero]; rfl
 | b :: bs, i, t, hb, hd, hi => by
  have hb0 := hb b (by simp)
  have hbl := b.toNat_lt
  have hg : ls[b.toNat]? = some (ls.getD b.toNat 0) := by rw [List.getD_eq_getElem?_getD, List.getElem?_eq_getElem (by omega)]; rfl
  have e : pkB (codL ls) ls (b :: bs) = putL ((codL ls).getD b.toNat 0) (ls.getD b.toNat 0) ++ pkB (codL ls) ls bs := by unfold pkB; rw [List.flatMap_cons]
  rw [e, List.append_assoc] at hd
  obtain ⟨p, hn, hp⟩ := nx_byte hl h56 hs hg hb0 (pkB (codL ls) ls bs ++ t)
  have hk56 := h56 _ (List.mem_of_getElem? hg)
  have hpl : (putL ((codL ls).getD b.toNat 0) (ls.getD b.toNat 0)).length = ls.getD b.toNat 0 := by unfold putL; rw [if_pos (by omega), bitsN_length]
  have hn1 : (nxS ls 56 1 0 (L.drop i)).1 = some p := by rw [hd, hn]
  have hn2 : (nxS ls 56 1 0 (L.drop i)).2 = ls.getD b.toNat 0 := by rw [hd, hn]
  have hdl := congrArg List.length hd
  rw [List.length_drop, List.length_append, hpl] at hdl
  have hd2 : L.drop (i + ls.getD b.toNat 0) = pkB (codL ls) ls bs ++ t := by
   rw [← List.drop_drop, hd]; exact List.drop_left' hpl
  have ih := dc_back hl h56 hs L bs (i + ls.getD b.toNat 0) t (fun x hx => hb x (by simp [hx])) hd2 (by omega)
  rw [List.length_cons, dcD_some hn1, hn2, ih, hp, e, List.length_append, hpl]
  simp only [Prod.mk.injEq, List.cons.injEq, and_true, true_and]
  exact ⟨UInt8.ofNat_toNat, by omega⟩
theorem cntL_pos (n : Nat) : ∀ bs : List UInt8, bs.length = n → ∀ b ∈ bs, 0 < (cntL bs).getD b.toNat 0 := by
 induction n with
 | zero => intro bs h b hb; rw [List.length_eq_zero_iff.1 h] at hb; simp at hb
 | succ n ih =>
  intro bs h b hb
  obtain ⟨bs', x, rfl⟩ : ∃ l b, bs = l ++ [b] := ⟨bs.dropLast, bs.getLast (by intro e; rw [e] at h; simp at h), (List.dropLast_concat_getLast _).symm⟩
  have h' : bs'.length = n := by simpa using h
  rw [cntL_snoc]
  unfold cntF
  have hl := cntL_length bs'
  rw [getD_set _ _ _ _ (by rw [hl]; exact x.toNat_lt)]
  split
  ·omega
  ·next hne =>
   rcases List.mem_append.1 hb with hb | hb
   ·exact ih bs' h' b hb
   ·rw [List.mem_singleton] at hb; exact absurd (by rw [hb]) hne
theorem text_coded (bs : List UInt8) : ∀ b ∈ bs, 0 < (lnT bs).getD b.toNat 0 := fun b hb => by
 have h := cntL_pos _ bs rfl b hb
 have hl := cntL_length bs
 have hbl := b.toNat_lt
 have hg : (cntL bs)[b.toNat]? = some ((cntL bs).getD b.toNat 0) := by rw [List.getD_eq_getElem?_getD, List.getElem?_eq_getElem (by omega)]; rfl
 have hz := lensW_zero hl hg
 show 0 < (lensW (cntL bs)).getD b.toNat 0
 omega
def okFrom : List (Nat × Nat) → List (Nat × Nat) → Prop
 | _, [] => True
 | bef, p :: rest => p.2 ≠ 0 ∧ lastIs bef p.1 = false ∧ okFrom (bef ++ [p]) rest
theorem okFrom_snoc : ∀ (rs bef : List (Nat × Nat)) (p : Nat × Nat), okFrom bef (rs ++ [p]) ↔ okFrom bef rs ∧ p.2 ≠ 0 ∧ lastIs (bef ++ rs) p.1 = false
 | [], bef, p => by simp [okFrom]
 | q :: rs, bef, p => by
  simp only [List.cons_append, okFrom]
  rw [okFrom_snoc rs (bef ++ [q]) p]
  simp [and_assoc]
theorem total_cons (p : Nat × Nat) (rs : List (Nat × Nat)) : (spreads (p :: rs)).length = p.2 + (spreads rs).length := by simp [spreads]
theorem pushRun_fresh (bef : List (Nat × Nat)) (x : Nat) (h : lastIs bef x = false) : pushRun bef x = bef ++ [(x, 1)] := by
 rcases runs_cases bef with rfl | ⟨d, v, c, rfl⟩
 ·rfl
 ·rw [lastIs_snoc] at h
  exact pushRun_new _ _ _ _ (by simpa using h)
theorem push_rep (bef : List (Nat × Nat)) (x k : Nat) : ∀ c, (List.replicate c x).foldl pushRun (bef ++ [(x, k)]) = bef ++ [(x, k + c)]
 | 0 => by simp
 | c + 1 => by
  rw [List.replicate_succ, List.foldl_cons, pushRun_same, push_rep bef x (k + 1) c, show k + 1 + c = k + (c + 1) by omega]
theorem push_spreads : ∀ (rs bef : List (Nat × Nat)), okFrom bef rs → (spreads rs).foldl pushRun bef = bef ++ rs
 | [], bef, _ => by simp [spreads]
 | (x, c) :: rs, bef, h => by
  obtain ⟨h1, h2, h3⟩ := h
  simp only at h1 h2
  obtain ⟨m, rfl⟩ : ∃ m, c = m + 1 := ⟨c - 1, by omega⟩
  have e : spreads ((x, m + 1) :: rs) = x :: (List.replicate m x ++ spreads rs) := by simp [spreads, List.replicate_succ]
  rw [e, List.foldl_cons, pushRun_fresh bef x h2, List.foldl_append, push_rep, push_spreads rs _ (by rw [show 1 + m = m + 1 by omega]; exact h3), show 1 + m = m + 1 by omega]
  simp
theorem packs_spreads (rs : List (Nat × Nat)) (h : okFrom [] rs) : packs (spreads rs) = rs := by
 have := push_spreads rs [] h
 simpa [packs] using this
theorem ok_push (rs : List (Nat × Nat)) (n : Nat) (h : okFrom [] rs) : okFrom [] (pushRun rs n) := by
 rcases runs_cases rs with rfl | ⟨d, v, c, rfl⟩
 ·rw [pushRun_nil]; exact ⟨by simp, rfl, trivial⟩
 ·by_cases e : v = n
  ·subst e
   rw [pushRun_same]
   rw [okFrom_snoc] at h ⊢
   exact ⟨h.1, by simp, h.2.2⟩
  ·rw [pushRun_new _ _ _ _ e, okFrom_snoc]
   refine ⟨h, by simp, ?_⟩
   rw [List.nil_append, lastIs_snoc]; simpa using e
theorem spreads_push (rs : List (Nat × Nat)) (n : Nat) : spreads (pushRun rs n) = spreads rs ++ [n] := by
 rcases runs_cases rs with rfl | ⟨d, v, c, rfl⟩
 ·rfl
 ·by_cases e : v = n
  ·subst e
   rw [pushRun_same, spreads_append, spreads_append, spreads_one, spreads_one, List.replicate_succ', List.append_assoc]
  ·rw [pushRun_new _ _ _ _ e, spreads_append, spreads_one]; rfl
theorem packs_ok (l : List Nat) : okFrom [] (packs l) := by
 suffices h : ∀ (l : List Nat) rs, okFrom [] rs → okFrom [] (l.foldl pushRun rs) from h l [] trivial
 intro l
 induction l with
 | nil => intro rs h; exact h
 | cons n l ih => intro rs h; exact ih _ (ok_push rs n h)
theorem spreads_packs (l : List Nat) : spreads (packs l) = l := by
 suffices h : ∀ (l : List Nat) rs, spreads (l.foldl pushRun rs) = spreads rs ++ l by
  have := h l []
  simpa [packs, spreads] using this
 intro l
 induction l with
 | nil => intro rs; simp
 | cons n l ih => intro rs; rw [List.foldl_cons, ih, spreads_push]; simp
theorem restOf_add (s : ByteArray) (p k : Nat) : restOf s (p + k) = (restOf s p).drop k := by unfold restOf; rw [List.drop_drop]
theorem read_body : ∀ (rs bef : List (Nat × Nat)) (room p : Nat) (s : ByteArray) (r : List UInt8), okFrom bef rs → (spreads rs).length ≤ room → room < M64 → (∀ q ∈ rs, q.1 < M64) → restOf s p = bodyR rs ++ r →
  readR rs.length s p bef room = (bef ++ rs, 0, p + (bodyR rs).length)
 | [], bef, room, p, s, r, _, _, _, _, _ => by simp [readR, bodyR]
 | (x, c) :: rs, bef, room, p, s, r, ⟨h1, h2, h3⟩, ht, hr, hm, he => by
  simp only at h1 h2
  rw [total_cons] at ht
  simp only at ht
  have hx := hm (x, c) (by simp)
  simp only at hx
  have eb : bodyR ((x, c) :: rs) = enc x ++ (enc (c - 1) ++ bodyR rs) := by simp [bodyR]
  rw [eb] at he
  have r1 : rd (restOf s p) = (x, 0, (enc x).length) := by rw [he, List.append_assoc]; exact rd_enc x _ hx
  have he2 : restOf s (p + (enc x).length) = enc (c - 1) ++ (bodyR rs ++ r) := by
   rw [restOf_add, he, List.append_assoc, List.drop_left, List.append_assoc]
  have r2 : rd (restOf s (p + (enc x).length)) = (c - 1, 0, (enc (c - 1)).length) := by rw [he2]; exact rd_enc (c - 1) _ (by omega)
  have he3 : restOf s (p + (enc x).length + (enc (c - 1)).length) = bodyR rs ++ r := by rw [restOf_add, he2, List.drop_left]
  have hn : nextR s p bef room = ((x, c), 0, p + (enc x).length + (enc (c - 1)).length) := by
   unfold nextR
   rw [r1]
   simp only
   rw [r2]
   simp only [ne_eq, not_true_eq_false, if_false, h2]
   rw [if_neg (by decide), if_neg (by omega), show c - 1 + 1 = c by omega]
  rw [List.length_cons, readR, hn]
  simp only [if_true]
  rw [read_body rs (bef ++ [(x, c)]) (room - c) _ s r h3 (by omega) (by omega) (fun q hq => hm q (by simp [hq])) he3, eb]
  simp only [List.append_assoc, List.length_append, List.singleton_append, Prod.mk.injEq, true_and]
  omega
theorem read_printed (l : List Nat) (r : List UInt8) (s : ByteArray) (p : Nat) (hs : restOf s p = printR l ++ r) (hl : l.length < M64) (hm : ∀ n ∈ l, n < M64) :
  redE s p (l.length : Nat) = 0 ∧ redAt s p (l.length : Nat) = p + (printR l).length ∧ redOf s p (l.length : Nat) = l := by
 have h0 : restOf s p = enc (packs l).length ++ (bodyR (packs l) ++ r) := by rw [hs, printR, List.append_assoc]
 have hpl := (packs_in l).1
 have r1 : rd (restOf s p) = ((packs l).length, 0, (enc (packs l).length).length) := by rw [h0]; exact rd_enc _ _ (by omega)
 have h1 : restOf s (p + (enc (packs l).length).length) = bodyR (packs l) ++ r := by rw [restOf_add, h0, List.drop_left]
 have hb := read_body (packs l) [] l.length _ s r (packs_ok l) (by rw [spreads_packs]; exact Nat.le_refl _) hl (packs_mem l hm) h1
 have e1 : redE s p (l.length : Nat) = 0 := by
  unfold redE
  rw [if_neg (by omega), r1]
  simp only [ne_eq, not_true_eq_false, if_false, Int.toNat_natCast]
  rw [hb]
 refine ⟨e1, ?_, ?_⟩
 ·unfold redAt
  rw [if_neg (by omega), r1]
  simp only [ne_eq, not_true_eq_false, if_false, Int.toNat_natCast]
  rw [hb, printR, List.length_append, Nat.add_assoc]
 ·unfold redOf
  rw [if_pos e1, r1]
  simp only [Int.toNat_natCast]
  rw [hb]
  exact spreads_packs l
theorem cutB_rest (s : ByteArray) (i : Nat) : cutB s i (8 * s.size - i) = (allB s).drop i := by
 unfold cutB; rw [List.take_of_length_le]; rw [List.length_drop, allB_length]; omega
theorem bitD_get (l : List Bool) (m : Nat) (h : m < l.length) : l[m]? = some (decide (bitD l m = 1)) := by
 unfold bitD
 rw [List.getD_eq_getElem?_getD, List.getElem?_eq_getElem h]
 cases l[m] <;> simp
theorem byteN_bit (l : List Bool) (j r : Nat) (hr : r < 8) : byteN l j / 2 ^ (7 - r) % 2 = bitD l (8 * j + r) := by
 unfold byteN
 have := bitD_le l (8 * j); have := bitD_le l (8 * j + 1); have := bitD_le l (8 * j + 2); have := bitD_le l (8 * j + 3)
 have := bitD_le l (8 * j + 4); have := bitD_le l (8 * j + 5); have := bitD_le l (8 * j + 6); have := bitD_le l (8 * j + 7)
 rcases (show r = 0 ∨ r = 1 ∨ r = 2 ∨ r = 3 ∨ r = 4 ∨ r = 5 ∨ r = 6 ∨ r = 7 by omega) with rfl | rfl | rfl | rfl | rfl | rfl | rfl | rfl
 all_goals simp only [Nat.add_zero, Nat.reducePow, Nat.reduceSub]; omega
theorem allB_pack (l : List Bool) : allB (textB (packB l)) = l ++ List.replicate (8 * ((l.length + 7) / 8) - l.length) false := by
 have hsz : (textB (packB l)).size = (l.length + 7) / 8 := by rw [textB_size, packB_length]
 apply List.ext_getElem?
 intro p
 by_cases hp : p / 8 < (l.length + 7) / 8
 ·rw [allB_get _ p (by rw [hsz]; exact hp)]
  have hb : ((textB (packB l))[p / 8]'(by rw [hsz]; exact hp)).toNat = byteN l (p / 8) := by
   have h1 := byte_of (textB (packB l)) (p / 8) (by rw [hsz]; exact hp)
   have h2 := packB_get l (p / 8) hp
   have h3 : (textB (packB l)).data.toList = packB l := by simp [textB]
   rw [h3, h2] at h1
   injection h1 with h1
   rw [← h1, byte_val]
  rw [hb, byteN_bit l (p / 8) (p % 8) (by omega), show 8 * (p / 8) + p % 8 = p by omega]
  rcases Nat.lt_or_ge p l.length with h | h
  ·rw [List.getElem?_append_left h, bitD_get l p h]
  ·rw [List.getElem?_append_right h, bitD_out l p h, List.getElem?_replicate, if_pos (by omega)]
   rfl
 ·rw [List.getElem?_eq_none (by rw [allB_length, hsz]; omega), List.getElem?_eq_none (by rw [List.length_append, List.length_replicate]; omega)]
theorem numB_zeros (n : Nat) : numB (List.replicate n false) = 0 := by
 induction n with
 | zero => rfl
 | succ n ih => rw [List.replicate_succ, numB_cons, ih]; simp
theorem done_pack (l : List Bool) : doneE (textB (packB l)) l.length = 0 := by
 have hsz : (textB (packB l)).size = (l.length + 7) / 8 := by rw [textB_size, packB_length]
 unfold doneE doneB
 rw [cutB_rest, allB_pack, List.drop_left' rfl, numB_zeros, hsz, decide_eq_true ⟨by omega, rfl⟩, if_pos rfl]
theorem cut_text (a b : List UInt8) : (textB (a ++ b)).extract a.length (textB (a ++ b)).size = textB b := by
 apply ByteArray.ext
 apply Array.toList_inj.1
 rw [textB_size, ByteArray.data_extract, Array.toList_extract, List.extract_eq_take_drop]
 show ((a ++ b).drop a.length).take _ = b
 rw [List.drop_left, List.take_of_length_le (by rw [List.length_append]; omega)]
theorem text_whole (bs : List UInt8) (h : bs.length ≤ 60000000) : wholeB (lnT bs) = true ∧ shr (lnT bs) 256 ≤ 2 ^ 56 := lens_whole (cntL_length bs) (lens_text bs h)
theorem text_codes (bs : List UInt8) (h : bs.length ≤ 60000000) : cdT bs = codL (lnT bs) := by
 have h56 : ∀ x ∈ lnT bs, x ≤ 56 := lens_text bs h
 have hg : greatB (lnT bs) = false := by
  unfold greatB; rw [List.any_eq_false]; intro x hx; have := h56 x hx; simp; omega
 have hE : cdsE (lnT bs) = 0 := by
  unfold cdsE
  rw [hg, (text_whole bs h).1]; rfl
 unfold cdT cdsOf
 rw [hE]; rfl
theorem un_back (bs : List UInt8) (h : bs.length ≤ 60000000) : unE (textB (pkT bs)) (bs.length : Nat) = 0 ∧ unT (textB (pkT bs)) (bs.length : Nat) = bs := by
 have h56 : ∀ x ∈ lnT bs, x ≤ 56 := lens_text bs h
 have hll : (lnT bs).length = 256 := lensW_length _ (cntL_length bs)
 obtain ⟨hwb, hsh⟩ := text_whole bs h
 obtain ⟨B, hB⟩ : ∃ B, B = pkB (codL (lnT bs)) (lnT bs) bs := ⟨_, rfl⟩
 have hpk : pkT bs = enc bs.length ++ (printR (lnT bs) ++ packB B) := by unfold pkT; rw [text_codes bs h, hB]
 obtain ⟨s, hs⟩ : ∃ s, s = textB (pkT bs) := ⟨_, rfl⟩
 rw [← hs]
 have h0 : restOf s 0 = enc bs.length ++ (printR (lnT bs) ++ packB B) := by rw [hs, hpk]; rfl
 have r1 : rd (restOf s 0) = (bs.length, 0, (enc bs.length).length) := by rw [h0]; exact rd_enc _ _ (by unfold M64; omega)
 have hA : unA s = (enc bs.length).length := by unfold unA; rw [r1]
 have h1 : restOf s (unA s) = printR (lnT bs) ++ packB B := by
  have := restOf_add s 0 (enc bs.length).length
  rw [Nat.zero_add, h0, List.drop_left] at this
  rw [hA]; exact this
 obtain ⟨e1, e2, e3⟩ := read_printed (lnT bs) (packB B) s (unA s) h1 (by rw [hll]; decide) (fun n hn => by have := h56 n hn; unfold M64; omega)
 rw [hll] at e1 e2 e3
 have c256 : ((256 : Nat) : Int) = 256 := rfl
 rw [c256] at e1 e2 e3
 have hrA : rlA s (unA s) = true := by
  unfold rlA
  rw [e1, e3, hll]
  simp only [decide_true, Bool.true_and, List.all_eq_true, decide_eq_true_eq]
  exact h56
 have hL : unL s = lnT bs := by unfold unL rlL; rw [if_pos hrA, e3]
 have hrB : rlB s (unA s) = true := by
  unfold rlB
  rw [hrA, show rlL s (unA s) = lnT bs from hL, hwb]; rfl
 have hZ : s.extract (unZ s) s.size = textB (packB B) := by
  have := cut_text (enc bs.length ++ printR (lnT bs)) (packB B)
  rw [List.append_assoc, ← hpk, ← hs, List.length_append] at this
  unfold unZ
  rw [e2, hA]; exact this
 have hd := dc_back hll h56 hsh (allB (textB (packB B))) bs 0 (List.replicate (8 * ((B.length + 7) / 8) - B.length) false) (text_coded bs) (by rw [List.drop_zero, allB_pack, hB]) (Nat.zero_le _)
 rw [← hB, Nat.zero_add] at hd
 have hdT : dcT (lnT bs) (textB (packB B)) bs.length = bs := by unfold dcT; rw [hd]; rfl
 have hdB : dcB (lnT bs) (textB (packB B)) bs.length = true := by
  unfold dcB; rw [hd]
  show (true && decide (doneE _ B.length = 0)) = true
  rw [done_pack]; rfl
 have hTx : unTx s = bs := by unfold unTx; rw [hL, hZ, r1]; exact hdT
 have hE : unE s (bs.length : Nat) = 0 := by
  unfold unE
  rw [if_neg (by omega), r1]
  simp only [ne_eq, not_true_eq_false, if_false]
  rw [if_neg (by omega), hrB, if_neg (by decide), hL, hZ, hdB, if_neg (by decide), hTx, if_pos hs.symm]
 exact ⟨hE, by unfold unT; rw [if_pos hE, hTx]⟩
def haltE : Ev := ⟨0, 14, 0, 0, 0⟩
def haltL : List Ev := [haltE, haltE]
theorem unE_more {s : ByteArray} {L M : Int} (h : unE s L = 0) (hLM : L ≤ M) : unE s M = 0 ∧ unT s M = unT s L := by
 have h1 : unE s M = 0 := by
  unfold unE at h ⊢
  by_cases c0 : L < 0
  ·rw [if_pos c0] at h; exact absurd h (by decide)
  rw [if_neg c0] at h
  rw [if_neg (by omega)]
  by_cases c1 : (rd (restOf s 0)).2.1 ≠ 0
  ·rw [if_pos c1] at h; exact absurd h (by decide)
  rw [if_neg c1] at h ⊢
  by_cases c2 : L < ((rd (restOf s 0)).1 : Int)
  ·rw [if_pos c2] at h; exact absurd h (by decide)
  rw [if_neg c2] at h
  rw [if_neg (by omega)]
  exact h
 exact ⟨h1, by unfold unT; rw [if_pos h1, if_pos h]⟩
theorem un_any (bs : List UInt8) (h : bs.length ≤ 60000000) (M : Int) (hM : (bs.length : Int) ≤ M) : unE (textB (pkT bs)) M = 0 ∧ unT (textB (pkT bs)) M = bs := by
 obtain ⟨h1, h2⟩ := un_back bs h
 obtain ⟨h3, h4⟩ := unE_more h1 hM
 exact ⟨h3, h4.trans h2⟩
theorem rdC_pk (bs : List UInt8) (h : bs.length ≤ 4194304) (most : Int) (h0 : 0 ≤ most) (h1 : most ≤ 65536) : rdC (textB (pkT bs)) most = rdS (textB bs) most := by
 obtain ⟨h3, h4⟩ := un_any bs (by omega) 4194304 (by omega)
 unfold rdC
 rw [if_neg (by omega), if_pos h3, h4]
theorem halt_str : strS haltL = [1, 0, 1, 1, 14, 1, 0, 0, 0] := by decide +kernel
theorem halt_ch : chE haltL = (0, 0) := by decide +kernel
theorem halt_two : rdS (textB [1, 0, 1, 1, 14, 1, 0, 0, 0]) 2 = (0, haltL) := by decide +kernel
theorem halt_one : rdS (textB [1, 0, 1, 1, 14, 1, 0, 0, 0]) 1 = (3, []) := by decide +kernel
theorem none_ch : chE [zeroE] = (0, 3) := by decide +kernel
theorem halt_pr : prV haltL = pkT [1, 0, 1, 1, 14, 1, 0, 0, 0] := by unfold prV; rw [halt_ch, if_pos rfl, halt_str]
theorem halt_rd2 : rdC (textB (prV haltL)) 2 = (0, haltL) := by rw [halt_pr, rdC_pk _ (by decide) _ (by decide) (by decide), halt_two]
theorem halt_rd1 : rdC (textB (prV haltL)) 1 = (3, []) := by rw [halt_pr, rdC_pk _ (by decide) _ (by decide) (by decide), halt_one]
theorem halt_rdn : rdC (textB (prV haltL)) (-1) = (1, []) := by unfold rdC; rw [if_pos (.inl (by decide))]
set_option maxHeartbeats 8000000 in
set_option maxRecDepth 100000 in
theorem rfSame15 (a b : List Ev) (A : Option Addr) (c : Nat) (B : Option Addr) (d : Nat) (w : World) (h : EvsAt w A c a) (k : EvsAt w B d b) :
  Calls Tryz.prog 15 #[.slice A a.length c, .slice B b.length d] w fun e w' => e = .returned (.bool (decide (a = b))) ∧ Below w.heap.size w w' := by
 obtain ⟨A', c', e', h1, h2, _⟩ := h.form
 simp only [Value.slice.injEq, true_and] at e'
 obtain ⟨rfl, rfl⟩ := e'
 obtain ⟨B', d', e', k1, k2, _⟩ := k.form
 simp only [Value.slice.injEq, true_and] at e'
 obtain ⟨rfl, rfl⟩ := e'
 unfold maxLen at h2 k2
 have HH := Lib.hid h
 have HK := Lib.hid k
 have HNO : Hid (a ≠ b → decide (a = b) = false) := fun h => decide_eq_false h
 have HYES : Hid (a = b → decide (a = b) = true) := fun h => decide_eq_true h
 clear h k
 by_cases hl : a.length = b.length
 case neg =>
  have e1 : ((a.length : Int) != (b.length : Int)) = true := by rw [bne_iff_ne]; omega
  have e2 : (a.length != b.length) = true := by rw [bne_iff_ne]; exact hl
  have HE := Lib.hid (HNO.out (fun e => hl (by rw [e])))
  clear HNO HYES hl
  go_enter Tryz.func15, Tryz.ntmps15
  go_wp2
  go_ret
  exact ⟨ret_bool (by rw [HE.out]), Below.refl _ _⟩
 have e1 : ((a.length : Int) != (b.length : Int)) = false := by rw [bne_eq_false_iff_eq]; omega
 have e2 : (a.length != b.length) = false := by rw [bne_eq_false_iff_eq]; exact hl
 have HLN := Lib.hid hl
 clear hl
 go_enter Tryz.func15, Tryz.ntmps15
 go_wp2_with fail
 go_loopw [5] (fun u wr => ∃ i : Nat, i ≤ a.length ∧ u = .int .i64 i ∧ Hid (a.take i = b.take i) ∧ ∃ n, wr = w.drewN n) (fun u _ => a.length - (intOf u).toNat)
 case atStart => exact ⟨0, by omega, rfl, (by show _ = _; rfl), 0, rfl⟩
 case round =>
  obtain ⟨i, hi, rfl, htk, nd, rfl⟩ := hrel
  by_cases hlt : i < a.length
  ·have hii : (i : Int) < (a.length : Int) := by omega
   have hii2 : (i : Int) < (b.length : Int) := by have := HLN.out; omega
   obtain ⟨x, hx⟩ : ∃ x, a[i]? = some x := ⟨_, List.getElem?_eq_getElem hlt⟩
   obtain ⟨y, hy⟩ : ∃ y, b[i]? = some y := ⟨_, List.getElem?_eq_getElem (by have := HLN.out; omega)⟩
   obtain ⟨b1, o1, rfl, gl1, g1⟩ := EvsAt.at_ HH.out hx
   obtain ⟨b2, o2, rfl, gl2, g2⟩ := EvsAt.at_ HK.out hy
   have x0 := g1 0 _ (by decide) rfl
   have x1 := g1 1 _ (by decide) rfl
   have x2 := g1 2 _ (by decide) rfl
   have x3 := g1 3 _ (by decide) rfl
   have x4 := g1 4 _ (by decide) rfl
   have y0 := g2 0 _ (by decide) rfl
   have y1 := g2 1 _ (by decide) rfl
   have y2 := g2 2 _ (by decide) rfl
   have y3 := g2 3 _ (by decide) rfl
   have y4 := g2 4 _ (by decide) rfl
   rw [Nat.add_zero] at x0 y0
   have hg := evGuard
   have hq := evNeq x y
   by_cases hxy : x = y
   ·have HT := Lib.hid (show a.take (i + 1) = b.take (i + 1) by rw [List.take_add_one, List.take_add_one, htk.out, hx, hy, hxy])
    rw [decide_eq_true hxy] at hq
    clear g1 g2 hx hy htk hxy
    go_wp2_with fail
    go_quiet (fail)
    go_wp2
    go_roundw
    case rel => exact ⟨i + 1, by omega, by go_num, HT, _, rfl⟩
    case measure => simp [intOf]; omega
   ·have HE := Lib.hid (HNO.out (fun e => hxy (by have h3 := hx; rw [e, hy] at h3; exact (Option.some.inj h3).symm)))
    rw [decide_eq_false hxy] at hq
    clear g1 g2 hx hy htk hxy
    go_wp2_with fail
    go_quiet (fail)
    go_wp2
    go_ret
    exact ⟨ret_bool (by rw [HE.out]), below_drewN (below_drewN (Below.refl _ _) nd) nq⟩
  ·obtain rfl : i = a.length := by omega
   have HE := Lib.hid (HYES.out (by have h1 := htk.out; have h2 := HLN.out; rw [List.take_length, h2, List.take_length] at h1; exact h1))
   have HBq := Lib.hid (below_drewN (Below.refl w.heap.size w) nd)
   clear HNO HYES
   go_wp2
   go_ret
   exact ⟨ret_bool (by rw [HE.out]), HBq.out⟩
theorem evs_lit {w : World} {g n : Nat} {cs : Array Value} (h : Lies w g 36 cs) (hn : cs.size = n * 5) (hm : n ≤ 1000000) : SeqS w 5 (.slice (some ⟨g, 0, none⟩) n n) n cs.toList := by
 refine ⟨by rw [Array.length_toList, hn], some ⟨g, 0, none⟩, n, rfl, Nat.le_refl _, by unfold maxLen; omega, (fun e => by cases e), fun k u hu => ⟨g, 0, rfl, ?_⟩⟩
 rw [Nat.zero_add, h.cell]
 simpa using hu
abbrev haltC : Array Value := #[.int .i64 0, .int .i64 14, .int .i64 0, .int .u64 0, .int .u64 0, .int .i64 0, .int .i64 14, .int .i64 0, .int .u64 0, .int .u64 0]
theorem halts21 (w : World) : Calls Tryz.prog 14 #[] w fun e w' => e = .returned (.slice (some ⟨w.heap.size, 0, none⟩) 2 2) ∧ EvsAt w' (some ⟨w.heap.size, 0, none⟩) 2 haltL ∧ Below w.heap.size w w' := by
 have hl := Lies.made w 36 haltC
 have HS := Lib.hid (evs_lit (n := 2) hl rfl (by decide))
 have HB := Lib.hid ((Below.refl w.heap.size w).alloc (Nat.le_refl _) (.cells haltC 36))
 clear hl
 go_enter Tryz.func14, Tryz.ntmps14
 go_wp2
 go_ret
 exact ⟨rfl, HS.out, HB.out⟩
theorem pk_small21 (bs : List UInt8) (h : bs.length ≤ 4294967296) : (pkT bs).length ≤ 1099511627776 := by
 have h1 := (enc_length bs.length).2
 have h2 := printR_le (lnT bs)
 have h3 : (lnT bs).length = 256 := lensW_length _ (cntL_length bs)
 have h4 := pkB_le (cdT bs) (lnT bs) bs
 unfold pkT
 rw [List.length_append, List.length_append, packB_length]
 omega
theorem haltL_ok : ∀ x ∈ haltL, evOk x := by
 intro x hx
 have : x = haltE := by simpa [haltL] using hx
 subst this
 exact ⟨by unfold evI64 haltE; decide, by unfold evI64 haltE; decide, by unfold evI64 haltE; decide, by decide, by decide⟩
theorem zeroE_ok : ∀ x ∈ [zeroE], evOk x := by
 intro x hx
 have : x = zeroE := by simpa using hx
 subst this
 exact ⟨by unfold evI64 zeroE; decide, by unfold evI64 zeroE; decide, by unfold evI64 zeroE; decide, by decide, by decide⟩
set_option maxHeartbeats 8000000 in
set_option maxRecDepth 100000 in
theorem awake21 (w : World) : Calls Tryz.prog 6 #[] w fun e w' => e = .returned (.bool true) ∧ Below w.heap.size w w' := by
 have hsv : strV haltL = [1, 0, 1, 1, 14, 1, 0, 0, 0] := by unfold strV; rw [halt_ch, if_pos rfl, halt_str]
 have hst := fun A c w h => chunkStreams haltL A c w h haltL_ok
 have hpr := fun A c w h => chunkPrint haltL A c w h haltL_ok
 have hz1 := fun A c w h => chunkStreams [zeroE] A c w h zeroE_ok
 have hz2 := fun A c w h => chunkPrint [zeroE] A c w h zeroE_ok
 rw [hsv, halt_ch, show textB [1, 0, 1, 1, 14, 1, 0, 0, 0] = ⟨#[1, 0, 1, 1, 14, 1, 0, 0, 0]⟩ from rfl] at hst
 rw [halt_ch] at hpr
 rw [show strV [zeroE] = [] by unfold strV; rw [none_ch]; rfl, none_ch] at hz1
 rw [show prV [zeroE] = [] by unfold prV; rw [none_ch]; rfl, none_ch] at hz2
 have hps : (textB (prV haltL)).size ≤ 1099511627776 := by rw [halt_pr, textB_size]; exact pk_small21 _ (by decide)
 have hun : (textB (unT (textB (prV haltL)) 4194304)).size ≤ 1099511627776 := by
  rw [halt_pr, (un_any _ (by decide) 4194304 (by decide)).2]; decide
 have hr2 := fun w => chunkRead (textB (prV haltL)) 2 w hps (by decide) hun
 have hr1 := fun w => chunkRead (textB (prV haltL)) 1 w hps (by decide) hun
 have hrn := fun w => chunkRead (textB (prV haltL)) (-1) w hps (by decide) hun
 rw [halt_rd2] at hr2
 rw [halt_rd1] at hr1
 rw [halt_rdn] at hrn
 generalize textB (prV haltL) = P at *
 have HST := Lib.hid hst
 have HPR := Lib.hid hpr
 have HZ1 := Lib.hid hz1
 have HZ2 := Lib.hid hz2
 have HR2 := Lib.hid hr2
 have HR1 := Lib.hid hr1
 have HRN := Lib.hid hrn
 clear hsv hst hpr hz1 hz2 hps hun hr2 hr1 hrn
 go_enter Tryz.func6, Tryz.ntmps6
 go_wp2_with fail
 refine (halts21 w).mono ?_
 rintro e w1 ⟨rfl, he1, hb1⟩
 have HB1 := Lib.hid hb1
 go_wp2_with fail
 refine (HST.out (some ⟨w.heap.size, 0, none⟩) 2 w1 he1).mono ?_
 rintro e w2 ⟨rfl, hb2⟩
 have HB2 := Lib.hid (then_ HB1.out hb2)
 clear he1 hb1 hb2 HB1 HST
 go_wp2_with fail
 refine (halts21 w2).mono ?_
 rintro e w3 ⟨rfl, he3, hb3⟩
 have HB3 := Lib.hid (then_ HB2.out hb3)
 go_wp2_with fail
 refine (HPR.out (some ⟨w2.heap.size, 0, none⟩) 2 w3 he3).mono ?_
 rintro e w4 ⟨rfl, hb4⟩
 have HB4 := Lib.hid (then_ HB3.out hb4)
 clear he3 hb3 hb4 HB2 HB3 HPR
 go_wp2_with fail
 refine (HR2.out w4).mono ?_
 rintro e w5 ⟨v5, rfl, ho5, hb5⟩
 have HB5 := Lib.hid (then_ HB4.out hb5)
 have HO5 := Lib.hid ho5
 obtain ⟨A5, c5, rfl⟩ := own_sl21 ho5
 clear hb5 HB4 HR2 ho5
 go_wp2_with fail
 refine (HR1.out w5).mono ?_
 rintro e w6 ⟨v6, rfl, ho6, hb6⟩
 have HB6 := Lib.hid (then_ HB5.out hb6)
 have HO6 := Lib.hid (owned_below HO5.out hb6)
 clear hb6 ho6 HB5 HO5 HR1
 go_wp2_with fail
 refine (HRN.out w6).mono ?_
 rintro e w7 ⟨v7, rfl, ho7, hb7⟩
 have HB7 := Lib.hid (then_ HB6.out hb7)
 have HO7 := Lib.hid (owned_below HO6.out hb7)
 clear hb7 ho7 HB6 HO6 HRN
 go_wp2_with fail
 have hzb1 := (Below.refl w7.heap.size w7).alloc (Nat.le_refl _) (.cells #[.int .i64 0, .int .i64 0, .int .i64 0, .int .u64 0, .int .u64 0] 36)
 have HO8 := Lib.hid (owned_below HO7.out hzb1)
 have HB8 := Lib.hid (then_ HB7.out hzb1)
 have hz8 : EvsAt (w7.alloc (.cells #[.int .i64 0, .int .i64 0, .int .i64 0, .int .u64 0, .int .u64 0] 36)) (some ⟨w7.heap.size, 0, none⟩) 1 [zeroE] := evs_lit (n := 1) (Lies.made w7 36 #[.int .i64 0, .int .i64 0, .int .i64 0, .int .u64 0, .int .u64 0]) rfl (by decide)
 clear hzb1 HO7 HB7
 refine (HZ2.out (some ⟨w7.heap.size, 0, none⟩) 1 _ hz8).mono ?_
 rintro e w9 ⟨rfl, hb9⟩
 have HO9 := Lib.hid (owned_below HO8.out hb9)
 have HB9 := Lib.hid (then_ HB8.out hb9)
 clear hz8 hb9 HO8 HB8 HZ2
 go_wp2_with fail
 have hzb1 := (Below.refl w9.heap.size w9).alloc (Nat.le_refl _) (.cells #[.int .i64 0, .int .i64 0, .int .i64 0, .int .u64 0, .int .u64 0] 36)
 have HOa := Lib.hid (owned_below HO9.out hzb1)
 have HBa := Lib.hid (then_ HB9.out hzb1)
 have hz8 : EvsAt (w9.alloc (.cells #[.int .i64 0, .int .i64 0, .int .i64 0, .int .u64 0, .int .u64 0] 36)) (some ⟨w9.heap.size, 0, none⟩) 1 [zeroE] := evs_lit (n := 1) (Lies.made w9 36 #[.int .i64 0, .int .i64 0, .int .i64 0, .int .u64 0, .int .u64 0]) rfl (by decide)
 clear hzb1 HO9 HB9
 refine (HZ1.out (some ⟨w9.heap.size, 0, none⟩) 1 _ hz8).mono ?_
 rintro e wb ⟨rfl, hbb⟩
 have HOb := Lib.hid (owned_below HOa.out hbb)
 have HBb := Lib.hid (then_ HBa.out hbb)
 clear hz8 hbb HOa HBa HZ1
 go_wp2_with fail
 refine (halts21 wb).mono ?_
 rintro e wc ⟨rfl, hec, hbc⟩
 have HOc := Lib.hid (owned_below HOb.out hbc)
 have HBc := Lib.hid (then_ HBb.out hbc)
 have HEC := Lib.hid hec
 clear hec hbc HOb HBb
 go_wp2_with fail
 refine (rfSame15 haltL haltL A5 c5 (some ⟨wb.heap.size, 0, none⟩) 2 wc (SeqS.of_owns HOc.out) HEC.out).mono ?_
 rintro e wd ⟨rfl, hbd⟩
 have HBd := Lib.hid (then_ HBc.out hbd)
 have hdd : decide (haltL = haltL) = true := decide_eq_true rfl
 rw [hdd]
 clear hbd HOc HBc HEC hdd
 go_wp2_with fail
 go_ret
 exact ⟨rfl, HBd.out⟩
theorem ofE_map (l : List Ev) (g : Ev → Ev) (hg : ∀ x ∈ l, (g x).th = x.th) (t : Int) : ∀ k, ofE (l.map g) t k = ofE l t k
 | 0 => rfl
 | k + 1 => by
  unfold ofE
  rw [ofE_map l g hg t k, List.getElem?_map]
  rcases hx : l[k]? with _ | x
  ·rfl
  ·simp only [Option.map_some]
   rw [hg x (List.mem_of_getElem? hx)]
theorem ofE_pre (l : List Ev) (t : Int) (k : Nat) : ∀ d, ∃ m, ofE l t (k + d) = ofE l t k ++ m
 | 0 => ⟨[], by simp⟩
 | d + 1 => by
  obtain ⟨m, hm⟩ := ofE_pre l t k d
  rw [show k + (d + 1) = (k + d) + 1 by omega, ofE.eq_2 l t (k + d)]
  split
  ·split
   ·exact ⟨m ++ [k + d], by rw [hm, List.append_assoc]⟩
   ·exact ⟨m, hm⟩
  ·exact ⟨m, hm⟩
theorem ofE_own (l : List Ev) (t : Int) : (ofE l t l.length).length = (ownE l t).length := by rw [← ownE_ofl, List.length_map]
theorem prV_ok {l : List Ev} (h : (chE l).2 = 0) : prV l = pkT (strS l) := by unfold prV; rw [if_pos h]
theorem rdV_take : ∀ (f k v : Nat) (l : List UInt8), (rdV (f + 1) k v l).2.1 = 0 → ∃ n, (rdV (f + 1) k v l).1 = v + n * 128 ^ k ∧ (0 < k → 0 < n) ∧ l.take (rdV (f + 1) k v l).2.2 = leb f n
 | f, k, v, [], h => by simp [rdV] at h
 | f, k, v, b :: l, h => by
  cases hw : wrongB k b
  ·by_cases hb : b.toNat < 128
   ·rw [rdV_last _ _ _ _ _ hw hb]
    refine ⟨b.toNat, rfl, fun hk => ?_, ?_⟩
    ·unfold wrongB at hw
     have h2 := of_decide_eq_false hw
     have : b ≠ 0 := fun e => h2 (.inl ⟨hk, e⟩)
     rcases Nat.eq_zero_or_pos b.toNat with h0 | h0
     ·exact absurd (UInt8.toNat_inj.1 (by rw [h0]; rfl)) this
     ·exact h0
    ·rw [leb_small f _ hb, UInt8.ofNat_toNat]; rfl
   ·rw [rdV_more _ _ _ _ _ hw hb] at h ⊢
    cases f with
    | zero => simp [rdV] at h
    | succ f =>
     obtain ⟨n, h1, h2, h3⟩ := rdV_take f (k + 1) _ l h
     have hn := h2 (by omega)
     have hb2 := b.toNat_lt
     refine ⟨(b.toNat - 128) + n * 128, ?_, fun _ => by omega, ?_⟩
     ·simp only
      rw [h1, Nat.pow_succ, Nat.add_mul]
      rw [show n * 128 * 128 ^ k = n * (128 ^ k * 128) by ac_rfl]
      omega
     ·simp only [List.take_succ_cons]
      rw [h3, leb_big f _ (by omega), show ((b.toNat - 128) + n * 128) % 128 + 128 = b.toNat by omega, show ((b.toNat - 128) + n * 128) / 128 = n by omega, UInt8.ofNat_toNat]
  ·rw [rdV_wrong _ _ _ _ _ hw] at h; simp at h
theorem rd_take (l : List UInt8) (h : (rd l).2.1 = 0) : l.take (rd l).2.2 = enc (rd l).1 := by
 obtain ⟨n, h1, _, h3⟩ := rdV_take 9 0 0 l h
 unfold rd
 rw [h3, h1]
 simp [enc]
theorem take_two (l : List UInt8) (a b : Nat) (x y : List UInt8) (h1 : l.take a = x) (h2 : (l.drop a).take b = y) : l.take (a + b) = x ++ y := by
 rw [List.take_add, h1, h2]
theorem nextR_bytes {s : ByteArray} {p : Nat} {bef : List (Nat × Nat)} {room : Nat} (h : (nextR s p bef room).2.1 = 0) :
  ∃ x y k, nextR s p bef room = ((x, y + 1), 0, p + k) ∧ (restOf s p).take k = enc x ++ enc y := by
 have hok := nextR_ok h
 unfold nextR at h ⊢
 have h1 := rd_take (restOf s p)
 have h2 := rd_take (restOf s (p + (rd (restOf s p)).2.2))
 by_cases e1 : (rd (restOf s p)).2.1 = 0
 ·rw [if_neg (by omega)] at h
  rw [if_neg (by omega)]
  by_cases e2 : (rd (restOf s (p + (rd (restOf s p)).2.2))).2.1 = 0
  ·rw [if_neg (by omega)] at h
   rw [if_neg (by omega)]
   simp only at h
   refine ⟨(rd (restOf s p)).1, (rd (restOf s (p + (rd (restOf s p)).2.2))).1, (rd (restOf s p)).2.2 + (rd (restOf s (p + (rd (restOf s p)).2.2))).2.2, ?_, ?_⟩
   ·rw [h, ← Nat.add_assoc]
   ·have h2 := h2 e2
    refine take_two _ _ _ _ _ (h1 e1) ?_
    rw [← h2, restOf_add]
  ·rw [if_pos e2] at h; exact absurd h e2
 ·rw [if_pos e1] at h; exact absurd h e1
theorem read_back : ∀ (n : Nat) (s : ByteArray) (p : Nat) (bef : List (Nat × Nat)) (room : Nat), (readR n s p bef room).2.1 = 0 →
  ∃ rs k, readR n s p bef room = (bef ++ rs, 0, p + k) ∧ rs.length = n ∧ okFrom bef rs ∧ (restOf s p).take k = bodyR rs
 | 0, s, p, bef, room, _ => ⟨[], 0, by simp [readR], rfl, trivial, by simp [bodyR]⟩
 | n + 1, s, p, bef, room, h => by
  rw [readR] at h ⊢
  by_cases hf : (nextR s p bef room).2.1 = 0
  ·rw [if_pos hf] at h ⊢
   obtain ⟨h1, h2, h3, h4, h5⟩ := nextR_ok hf
   obtain ⟨x, y, k, e, ht⟩ := nextR_bytes hf
   rw [e] at h h5 ⊢
   simp only at h h5 ⊢
   obtain ⟨rs, k2, e2, hl, hok, hb⟩ := read_back n s (p + k) (bef ++ [(x, y + 1)]) (room - (y + 1)) h
   refine ⟨(x, y + 1) :: rs, k + k2, ?_, by simp [hl], ⟨by simp, h5, hok⟩, ?_⟩
   ·rw [e2]; simp [Nat.add_assoc]
   ·rw [restOf_add] at hb
    rw [take_two _ _ _ _ _ ht hb]
    simp [bodyR]
  ·rw [if_neg hf] at h; exact absurd h hf
theorem runs_text {s : ByteArray} {p : Nat} {m : Int} (h : redE s p m = 0) : ∃ k, redAt s p m = p + k ∧ (restOf s p).take k = printR (redOf s p m) := by
 unfold redOf redAt
 rw [if_pos h]
 unfold redE at h
 by_cases hneg : m < 0
 ·rw [if_pos hneg] at h; exact absurd h (by decide)
 rw [if_neg hneg] at h
 rw [if_neg hneg]
 by_cases e : (rd (restOf s p)).2.1 = 0
 ·rw [if_neg (by omega)] at h
  rw [if_neg (by omega)]
  obtain ⟨rs, k, e2, hl, hok, hb⟩ := read_back _ _ _ _ _ h
  rw [e2]
  simp only [List.nil_append]
  rw [restOf_add] at hb
  refine ⟨(rd (restOf s p)).2.2 + k, by omega, ?_⟩
  rw [take_two _ _ _ _ _ (rd_take (restOf s p) e) hb, printR, packs_spreads rs hok, hl]
 ·rw [if_pos e] at h; exact absurd h e
theorem many_text : ∀ (c : Nat) (s : ByteArray) (p : Nat), (rdMany c s p).2.1 = 0 → ∃ k, (rdMany c s p).2.2 = p + k ∧ (restOf s p).take k = encs (rdMany c s p).1 ∧ (rdMany c s p).1.length = c
 | 0, s, p, _ => ⟨0, rfl, by simp [rdMany, encs], rfl⟩
 | c + 1, s, p, h => by
  unfold rdMany at h ⊢
  by_cases e : (rd (restOf s p)).2.1 = 0
  ·rw [if_pos e] at h ⊢
   simp only at h ⊢
   obtain ⟨k, h1, h2, h3⟩ := many_text c s _ h
   rw [restOf_add] at h2
   refine ⟨(rd (restOf s p)).2.2 + k, by omega, ?_, by rw [List.length_cons, h3]⟩
   rw [take_two _ _ _ _ _ (rd_take (restOf s p) e) h2, encs_cons]
  ·rw [if_neg e] at h; exact absurd h e
theorem list_text {s : ByteArray} {p : Nat} {m : Int} (h : rdListErr s p m = 0) : ∃ k, rdListAt s p m = p + k ∧ (restOf s p).take k = encList (deltas 0 (dlList s p m)) := by
 have hd : deltas 0 (dlList s p m) = rdListOf s p m := by unfold dlList; exact deltas_sums _ (rdListOf_lt s p m) 0 (by decide)
 rw [hd]
 unfold rdListOf rdListAt
 rw [if_pos h]
 unfold rdListErr at h
 by_cases hneg : m < 0
 ·rw [if_pos hneg] at h; exact absurd h (by decide)
 rw [if_neg hneg] at h
 rw [if_neg hneg]
 by_cases e : (rd (restOf s p)).2.1 = 0
 ·rw [if_neg (by omega)] at h
  rw [if_neg (by omega)]
  by_cases e2 : m < ((rd (restOf s p)).1 : Int)
  ·rw [if_pos e2] at h; exact absurd h (by decide)
  rw [if_neg e2] at h
  rw [if_neg e2]
  obtain ⟨k, h1, h2, h3⟩ := many_text _ _ _ h
  rw [restOf_add] at h2
  refine ⟨(rd (restOf s p)).2.2 + k, by omega, ?_⟩
  rw [take_two _ _ _ _ _ (rd_take (restOf s p) e) h2, encList, h3]
 ·rw [if_pos e] at h; exact absurd h e
section
variable {u : Int → Bool} {st : Ev → Nat → Ev} {own : List Ev} {ns : List Nat}
theorem fillK_sel {f : Ev → Nat} {g : Nat → Nat} (hst : ∀ x n, u (st x n).kd = u x.kd) (hf : ∀ x n, f (st x n) = g n) : ∀ (k : Nat) (cur : List Ev) (j : Nat), k ≤ own.length → fillK u st own ns k = some (cur, j) → selN u f (cur.take k) = (ns.take j).map g
 | 0, cur, j, _, h => by
  simp only [fillK, Option.some.injEq, Prod.mk.injEq] at h
  obtain ⟨rfl, rfl⟩ := h
  simp [selN]
 | k + 1, cur, j, hk, h => by
  obtain ⟨x, hx⟩ : ∃ x, own[k]? = some x := ⟨_, List.getElem?_eq_getElem (by omega)⟩
  rcases hf0 : fillK u st own ns k with _ | ⟨c, i⟩
  ·unfold fillK at h; rw [hf0] at h; cases h
  have ih := fillK_sel hst hf k c i (by omega) hf0
  obtain ⟨h1, h2, h3, h4⟩ := fillK_ok k c i hf0
  have hcx : c[k]? = some x := by rw [h4 k (Nat.le_refl _), hx]
  by_cases hu : u x.kd = true
  ·rcases hn : ns[i]? with _ | n
   ·rw [fillK_none hf0 hx hu hn] at h; cases h
   ·rw [fillK_put hf0 hx hu hn] at h
    simp only [Option.some.injEq, Prod.mk.injEq] at h
    obtain ⟨rfl, rfl⟩ := h
    have hg : (c.set k (st x n))[k]? = some (st x n) := by rw [List.getElem?_set_self (by omega)]
    rw [selN_next hg, if_pos (by rw [hst]; exact hu), List.take_set_of_le (Nat.le_refl _), ih, hf, List.take_add_one, hn]
    simp
  ·have hu : u x.kd = false := by simpa using hu
   rw [fillK_skip hf0 hx hu] at h
   simp only [Option.some.injEq, Prod.mk.injEq] at h
   obtain ⟨rfl, rfl⟩ := h
   rw [selN_next hcx, if_neg (by rw [hu]; decide), ih]
theorem fillR_open {cur : List Ev} (h : fillR u st own ns = some cur) : fillK u st own ns own.length = some (cur, ns.length) := by
 unfold fillR at h
 rcases hf : fillK u st own ns own.length with _ | ⟨c, j⟩
 ·rw [hf] at h; cases h
 ·rw [hf] at h
  simp only at h
  by_cases hj : j = ns.length
  ·rw [if_pos hj] at h
   rw [hj, Option.some.inj h]
  ·rw [if_neg hj] at h; cases h
theorem fillR_sel {f : Ev → Nat} {g : Nat → Nat} {cur : List Ev} (hst : ∀ x n, u (st x n).kd = u x.kd) (hf : ∀ x n, f (st x n) = g n) (h : fillR u st own ns = some cur) : selN u f cur = ns.map g := by
 have h0 := fillR_open h
 have h1 := fillK_sel hst hf own.length cur ns.length (Nat.le_refl _) h0
 rwa [List.take_length, ← (fillK_ok _ _ _ h0).1, List.take_length] at h1
theorem fillK_keep {α : Type} {P : Ev → α} (hP : ∀ x n, P (st x n) = P x) : ∀ (k : Nat) (cur : List Ev) (j : Nat), fillK u st own ns k = some (cur, j) → cur.map P = own.map P
 | 0, cur, j, h => by
  simp only [fillK, Option.some.injEq, Prod.mk.injEq] at h
  obtain ⟨rfl, rfl⟩ := h
  rfl
 | k + 1, cur, j, h => by
  rcases hf0 : fillK u st own ns k with _ | ⟨c, i⟩
  ·unfold fillK at h; rw [hf0] at h; cases h
  have ih := fillK_keep hP k c i hf0
  obtain ⟨h1, h2, h3, h4⟩ := fillK_ok k c i hf0
  rcases hx : own[k]? with _ | x
  ·unfold fillK at h; rw [hf0] at h; simp only at h; rw [hx] at h
   simp only [Option.some.injEq, Prod.mk.injEq] at h
   rw [← h.1]; exact ih
  by_cases hu : u x.kd = true
  ·rcases hn : ns[i]? with _ | n
   ·rw [fillK_none hf0 hx hu hn] at h; cases h
   ·rw [fillK_put hf0 hx hu hn] at h
    simp only [Option.some.injEq, Prod.mk.injEq] at h
    obtain ⟨rfl, rfl⟩ := h
    rw [List.map_set, ih]
    refine List.ext_getElem? fun m => ?_
    by_cases hm : m = k
    ·subst hm
     rw [List.getElem?_set_self (by rw [List.length_map]; exact (List.getElem?_eq_some_iff.1 hx).1), List.getElem?_map, hx, hP]; rfl
    ·rw [List.getElem?_set_ne (by omega)]
  ·have hu : u x.kd = false := by simpa using hu
   rw [fillK_skip hf0 hx hu] at h
   simp only [Option.some.injEq, Prod.mk.injEq] at h
   obtain ⟨rfl, rfl⟩ := h
   exact ih
theorem fillR_keep {α : Type} {P : Ev → α} {cur : List Ev} (hP : ∀ x n, P (st x n) = P x) (h : fillR u st own ns = some cur) : cur.map P = own.map P := fillK_keep hP _ _ _ (fillR_open h)
theorem fillK_all {P : Ev → Prop} (hP : ∀ x n, n ∈ ns → P x → P (st x n)) (h0 : ∀ x ∈ own, P x) : ∀ (k : Nat) (cur : List Ev) (j : Nat), fillK u st own ns k = some (cur, j) → ∀ x ∈ cur, P x
 | 0, cur, j, h => by
  simp only [fillK, Option.some.injEq, Prod.mk.injEq] at h
  obtain ⟨rfl, rfl⟩ := h
  exact h0
 | k + 1, cur, j, h => by
  rcases hf0 : fillK u st own ns k with _ | ⟨c, i⟩
  ·unfold fillK at h; rw [hf0] at h; cases h
  have ih := fillK_all hP h0 k c i hf0
  rcases hx : own[k]? with _ | x
  ·unfold fillK at h; rw [hf0] at h; simp only at h; rw [hx] at h
   simp only [Option.some.injEq, Prod.mk.injEq] at h
   rw [← h.1]; exact ih
  by_cases hu : u x.kd = true
  ·rcases hn : ns[i]? with _ | n
   ·rw [fillK_none hf0 hx hu hn] at h; cases h
   ·rw [fillK_put hf0 hx hu hn] at h
    simp only [Option.some.injEq, Prod.mk.injEq] at h
    obtain ⟨rfl, rfl⟩ := h
    intro y hy
    rcases List.mem_or_eq_of_mem_set hy with hy | rfl
    ·exact ih y hy
    ·exact hP x n (List.mem_of_getElem? hn) (h0 x (List.mem_of_getElem? hx))
  ·have hu : u x.kd = false := by simpa using hu
   rw [fillK_skip hf0 hx hu] at h
   simp only [Option.some.injEq, Prod.mk.injEq] at h
   obtain ⟨rfl, rfl⟩ := h
   exact ih
theorem fillR_all {P : Ev → Prop} {cur : List Ev} (hP : ∀ x n, n ∈ ns → P x → P (st x n)) (h0 : ∀ x ∈ own, P x) (h : fillR u st own ns = some cur) : ∀ x ∈ cur, P x := fillK_all hP h0 _ _ _ (fillR_open h)
end
theorem selN_pairs (u : Int → Bool) (f : Ev → Nat) (l : List Ev) : selN u f l = ((l.map fun x => (x.kd, f x)).filter (fun p => u p.1)).map (·.2) := by
 unfold selN
 induction l with
 | nil => rfl
 | cons x l ih =>
  rw [List.map_cons, List.filter_cons, List.filter_cons]
  by_cases hu : u x.kd = true
  ·rw [if_pos hu, if_pos hu, List.map_cons, List.map_cons, ih]
  ·rw [if_neg hu, if_neg hu, ih]
theorem selN_of {u : Int → Bool} {f : Ev → Nat} {a b : List Ev} (h : a.map (fun x => (x.kd, f x)) = b.map (fun x => (x.kd, f x))) : selN u f a = selN u f b := by rw [selN_pairs, selN_pairs, h]
theorem min_same {ns : List Nat} (h : ∀ y ∈ ns.map (fun n => min n 255), y < 255) : ns.map (fun n => min n 255) = ns := by
 conv => rhs; rw [← List.map_id ns]
 refine List.map_congr_left fun n hn => ?_
 have := h _ (List.mem_map.2 ⟨n, hn, rfl⟩)
 show min n 255 = n
 omega
theorem take_four {L : List UInt8} {a b c d : Nat} {x y z v : List UInt8} (h1 : L.take a = x) (h2 : (L.drop a).take b = y) (h3 : (L.drop (a + b)).take c = z) (h4 : (L.drop (a + b + c)).take d = v) : L.take (a + b + c + d) = x ++ (y ++ (z ++ v)) := by
 rw [take_two L (a + b + c) d _ v (take_two L (a + b) c _ z (take_two L a b x y h1 h2) h3) h4]
 simp only [List.append_assoc]
theorem stepR_open {er : Nat} {u : Int → Bool} {st : Ev → Nat → Ev} {own cur : List Ev} {ns : List Nat} {a i : Nat} (h : stepR er u st own ns a = some (cur, i)) : er = 0 ∧ fillR u st own ns = some cur ∧ i = a := by
 unfold stepR at h
 by_cases e : er = 0
 ·rw [if_pos e] at h
  rcases hf : fillR u st own ns with _ | c
  ·rw [hf] at h; cases h
  ·rw [hf] at h
   simp only [Option.map_some, Option.some.injEq, Prod.mk.injEq] at h
   exact ⟨e, by rw [h.1], h.2.symm⟩
 ·rw [if_neg e] at h; cases h
theorem bind_open {α β : Type} {o : Option α} {f : α → Option β} {b : β} (h : o.bind f = some b) : ∃ a, o = some a ∧ f a = some b := by
 cases o with
 | none => cases h
 | some a => exact ⟨a, rfl, h⟩
theorem thr_text {s : ByteArray} {i n i' : Nat} {own : List Ev} (h : rdT s i n 3 = some (own, i')) (hC : ∀ x ∈ own, kdF x < 255 ∧ rgF x < 255) :
  own.length = n ∧ (∃ k, i' = i + k ∧ (restOf s i).take k = thrS own) ∧ ∀ x ∈ own, x.tk < M64 ∧ x.vl < M64 := by
 rw [rdT] at h
 obtain ⟨⟨o2, p2⟩, h2, h3⟩ := bind_open h
 obtain ⟨e3, f3, r3⟩ := stepR_open h3
 rw [rdT] at h2
 obtain ⟨⟨o1, p1⟩, h1, h2⟩ := bind_open h2
 obtain ⟨e2, f2, r2⟩ := stepR_open h2
 rw [rdT] at h1
 obtain ⟨⟨o0, p0⟩, h0, h1⟩ := bind_open h1
 obtain ⟨e1, f1, r1⟩ := stepR_open h1
 rw [rdT] at h0
 obtain ⟨e0, f0, r0⟩ := stepR_open h0
 simp only at e3 f3 r3 e2 f2 r2 e1 f1 r1
 have hl : own.length = n := by rw [fillR_length f3, fillR_length f2, fillR_length f1, fillR_length f0, List.length_replicate]
 have q3 := fillR_sel (st := setVl) (f := vlF) (g := id) (fun _ _ => rfl) (fun _ _ => rfl) f3
 have q2 := fillR_sel (st := setTk) (f := tkF) (g := id) (fun _ _ => rfl) (fun _ _ => rfl) f2
 have q1 := fillR_sel (st := setRg) (f := rgF) (g := fun n => min n 255) (fun _ _ => rfl) (fun x n => by show (sm21 n).toNat = min n 255; unfold sm21; omega) f1
 have q0 := fillR_sel (st := setKd) (f := kdF) (g := fun n => min n 255) (fun _ _ => rfl) (fun x n => by show (sm21 n).toNat = min n 255; unfold sm21; omega) f0
 rw [List.map_id] at q3 q2
 have m2 : selN ticketB tkF own = selN ticketB tkF o2 := selN_of (fillR_keep (st := setVl) (fun _ _ => rfl) f3)
 have m1 : selN ringB rgF own = selN ringB rgF o1 := (selN_of (fillR_keep (st := setVl) (fun _ _ => rfl) f3)).trans (selN_of (fillR_keep (st := setTk) (fun _ _ => rfl) f2))
 have m0 : selN allU kdF own = selN allU kdF o0 := ((selN_of (fillR_keep (st := setVl) (fun _ _ => rfl) f3)).trans (selN_of (fillR_keep (st := setTk) (fun _ _ => rfl) f2))).trans (selN_of (fillR_keep (st := setRg) (fun _ _ => rfl) f1))
 have sm1 : selN ringB rgF own = redOf s p0 n := by
  rw [m1, q1]
  refine min_same fun y hy => ?_
  rw [← q1, ← m1] at hy
  obtain ⟨x, hx, rfl⟩ := List.mem_map.1 hy
  exact (hC x (List.mem_filter.1 hx).1).2
 have sm0 : selN allU kdF own = redOf s i n := by
  rw [m0, q0]
  refine min_same fun y hy => ?_
  rw [← q0, ← m0] at hy
  obtain ⟨x, hx, rfl⟩ := List.mem_map.1 hy
  exact (hC x (List.mem_filter.1 hx).1).1
 obtain ⟨a, ha, ta⟩ := runs_text e0
 obtain ⟨b, hb, tb⟩ := runs_text e1
 obtain ⟨c, hc, tc⟩ := list_text e2
 obtain ⟨d, hd, td⟩ := list_text e3
 refine ⟨hl, ⟨a + b + c + d, by omega, ?_⟩, ?_⟩
 ·rw [r0, ha, restOf_add] at tb
  rw [r1, hb, r0, ha, Nat.add_assoc, restOf_add] at tc
  rw [r2, hc, r1, hb, r0, ha, Nat.add_assoc, Nat.add_assoc, restOf_add, ← Nat.add_assoc] at td
  rw [take_four ta tb tc td]
  unfold thrS
  rw [sm0, sm1, m2, q2, q3]
  rw [r2, hc, r1, hb, r0, ha]
  simp only [Nat.add_assoc]
 ·have hz : ∀ x ∈ List.replicate n zeroE, x.tk < M64 ∧ x.vl < M64 := fun x hx => by
   rw [(List.mem_replicate.1 hx).2]; exact ⟨by decide, by decide⟩
  have a0 := fillR_all (st := setKd) (P := fun x => x.tk < M64 ∧ x.vl < M64) (fun x n _ h => h) hz f0
  have a1 := fillR_all (st := setRg) (P := fun x => x.tk < M64 ∧ x.vl < M64) (fun x n _ h => h) a0 f1
  have a2 := fillR_all (st := setTk) (P := fun x => x.tk < M64 ∧ x.vl < M64) (fun x n hn h => ⟨dlList_lt _ _ _ n hn, h.2⟩) a1 f2
  exact fillR_all (st := setVl) (P := fun x => x.tk < M64 ∧ x.vl < M64) (fun x n hn h => ⟨h.1, dlList_lt _ _ _ n hn⟩) a2 f3
def mergeT (t : Nat) : List Ev → List Ev → List Ev
 | [], _ => []
 | x :: L, own => if x.th = (t : Int) then (match own with | y :: o => withT y t :: mergeT t L o | [] => x :: mergeT t L []) else x :: mergeT t L own
theorem ownE_cons (x : Ev) (L : List Ev) (t : Int) : ownE (x :: L) t = if x.th = t then x :: ownE L t else ownE L t := by
 unfold ownE
 rw [List.filter_cons]
 by_cases h : x.th = t
 ·rw [if_pos (by simpa using h), if_pos h]
 ·rw [if_neg (by simpa using h), if_neg h]
theorem merge_ok (t : Nat) : ∀ (L own : List Ev), own.length = (ownE L (t : Int)).length →
  (mergeT t L own).map (·.th) = L.map (·.th) ∧ ownE (mergeT t L own) (t : Int) = own.map (fun y => withT y t) ∧ (∀ t' : Int, t' ≠ (t : Int) → ownE (mergeT t L own) t' = ownE L t') ∧ ∀ (k : Nat) (x : Ev), L[k]? = some x → x.th ≠ (t : Int) → (mergeT t L own)[k]? = some x
 | [], own, h => by
  have : own = [] := List.eq_nil_of_length_eq_zero (by rw [h]; rfl)
  subst this
  exact ⟨rfl, rfl, fun _ _ => rfl, fun k x hx => by simp at hx⟩
 | x :: L, own, h => by
  rw [ownE_cons] at h
  by_cases hx : x.th = (t : Int)
  ·rw [if_pos hx] at h
   cases own with
   | nil => simp at h
   | cons y o =>
    obtain ⟨h1, h2, h3, h4⟩ := merge_ok t L o (by simpa using h)
    have e : mergeT t (x :: L) (y :: o) = withT y t :: mergeT t L o := by rw [mergeT, if_pos hx]
    rw [e]
    refine ⟨?_, ?_, fun t' ht' => ?_, fun k z hz hne => ?_⟩
    ·rw [List.map_cons, List.map_cons, h1, hx]; rfl
    ·rw [ownE_cons, if_pos (show (withT y t).th = (t : Int) from rfl), h2, List.map_cons]
    ·rw [ownE_cons, if_neg (fun e => ht' (by rw [← e]; rfl)), h3 t' ht', ownE_cons, if_neg (fun e => ht' (by rw [← e, hx]))]
    ·cases k with
     | zero => simp only [List.getElem?_cons_zero, Option.some.injEq] at hz; subst hz; exact absurd hx hne
     | succ k => rw [List.getElem?_cons_succ] at hz ⊢; exact h4 k z hz hne
  ·rw [if_neg hx] at h
   obtain ⟨h1, h2, h3, h4⟩ := merge_ok t L own h
   have e : mergeT t (x :: L) own = x :: mergeT t L own := by conv => lhs; unfold mergeT; rw [if_neg hx]
   rw [e]
   refine ⟨?_, ?_, fun t' ht' => ?_, fun k z hz hne => ?_⟩
   ·rw [List.map_cons, List.map_cons, h1]
   ·rw [ownE_cons, if_neg hx, h2]
   ·rw [ownE_cons, ownE_cons, h3 t' ht']
   ·cases k with
    | zero => exact hz
    | succ k => rw [List.getElem?_cons_succ] at hz ⊢; exact h4 k z hz hne
theorem ofE_th {L M : List Ev} (h : M.map (·.th) = L.map (·.th)) (t : Int) : ∀ k, ofE M t k = ofE L t k
 | 0 => rfl
 | k + 1 => by
  rw [ofE.eq_2, ofE.eq_2, ofE_th h t k]
  have hk := congrArg (fun l => l[k]?) h
  simp only [List.getElem?_map] at hk
  rcases hx : L[k]? with _ | x <;> rcases hy : M[k]? with _ | y
  ·rfl
  ·rw [hx, hy] at hk; cases hk
  ·rw [hx, hy] at hk; cases hk
  ·rw [hx, hy] at hk
   simp only
   rw [show y.th = x.th from Option.some.inj hk]
theorem put_gen {L M own : List Ev} {t : Nat} (hth : M.map (·.th) = L.map (·.th)) (hne : ∀ (k : Nat) (x : Ev), L[k]? = some x → x.th ≠ (t : Int) → M[k]? = some x) (hown : ownE M (t : Int) = own.map (fun y => withT y t)) :
  ∀ k, k ≤ L.length → putK L (ofE L (t : Int) L.length) own t (ofE L (t : Int) k).length = M.take k ++ L.drop k
 | 0, _ => by simp [ofE, putK]
 | k + 1, hk => by
  have ih := put_gen hth hne hown k (by omega)
  have hlen : M.length = L.length := by have := congrArg List.length hth; simpa using this
  obtain ⟨x, hx⟩ : ∃ x, L[k]? = some x := ⟨_, List.getElem?_eq_getElem (by omega)⟩
  obtain ⟨y, hy⟩ : ∃ y, M[k]? = some y := ⟨_, List.getElem?_eq_getElem (by omega)⟩
  have hdr : L.drop k = x :: L.drop (k + 1) := by
   obtain ⟨h1, h2⟩ := List.getElem?_eq_some_iff.1 hx
   rw [List.drop_eq_getElem_cons h1, h2]
  have htl : (M.take k).length = k := by rw [List.length_take]; omega
  by_cases ht : x.th = (t : Int)
  ·have hof : ofE L (t : Int) (k + 1) = ofE L (t : Int) k ++ [k] := by rw [ofE.eq_2, hx]; simp only [if_pos ht]
   obtain ⟨m, hm⟩ := ofE_pre L (t : Int) (k + 1) (L.length - (k + 1))
   rw [show k + 1 + (L.length - (k + 1)) = L.length by omega, hof, List.append_assoc] at hm
   have hgi : (ofE L (t : Int) L.length).getD (ofE L (t : Int) k).length 0 = k := by
    rw [hm, List.getD_eq_getElem?_getD, List.getElem?_append_right (Nat.le_refl _), Nat.sub_self]; rfl
   have hgo : (own.map (fun y => withT y t))[(ofE L (t : Int) k).length]? = some y := by
    rw [← hown, ← ownE_ofl, hlen, ofE_th hth, hm, List.getElem?_map, List.getElem?_append_right (Nat.le_refl _), Nat.sub_self]
    show some (M.getD k default) = some y
    rw [List.getD_eq_getElem?_getD, hy]; rfl
   have hgd : withT (own.getD (ofE L (t : Int) k).length default) t = y := by
    rw [List.getElem?_map] at hgo
    rw [List.getD_eq_getElem?_getD]
    rcases ho : own[(ofE L (t : Int) k).length]? with _ | z
    ·rw [ho] at hgo; cases hgo
    ·rw [ho] at hgo; exact Option.some.inj hgo
   rw [hof, List.length_append, List.length_singleton, putK, ih, hgi, hgd, List.set_append_right _ _ (by omega), htl, Nat.sub_self, hdr, List.set_cons_zero, List.take_add_one, hy]
   simp
  ·have hof : ofE L (t : Int) (k + 1) = ofE L (t : Int) k := by rw [ofE.eq_2, hx]; simp only [if_neg ht]
   have hxy := hne k x hx ht
   rw [hy] at hxy
   rw [hof, ih, hdr, List.take_add_one, hy, hxy]
   simp
theorem put_merge {L own : List Ev} {t : Nat} (h : own.length = (ofE L (t : Int) L.length).length) : putK L (ofE L (t : Int) L.length) own t (ofE L (t : Int) L.length).length = mergeT t L own := by
 obtain ⟨h1, h2, h3, h4⟩ := merge_ok t L own (by rw [h, ofE_own])
 have hlen : (mergeT t L own).length = L.length := by have := congrArg List.length h1; simpa using this
 rw [put_gen h1 h4 h2 L.length (Nat.le_refl _), ← hlen, List.take_length, hlen, List.drop_length, List.append_nil]
def evC21 (x : Ev) : Prop := kdF x < 255 ∧ rgF x < 255
theorem strK_of {a b : List Ev} (hth : a.map (·.th) = b.map (·.th)) : ∀ t : Nat, (∀ t' : Nat, t' < t → ownE a (t' : Int) = ownE b (t' : Int)) → strK a t = strK b t
 | 0, _ => by
  have : a.map thF = b.map thF := by
   have := congrArg (List.map Int.toNat) hth
   rwa [List.map_map, List.map_map] at this
  rw [strK, strK, this]
 | t + 1, h => by
  rw [strK, strK, strK_of hth t (fun t' ht' => h t' (by omega))]
  unfold strT
  rw [h t (by omega)]
theorem selN_with (u : Int → Bool) (f : Ev → Nat) (own : List Ev) (t : Nat) (hf : ∀ x, f (withT x t) = f x) : selN u f (own.map (fun y => withT y t)) = selN u f own := by
 refine selN_of ?_
 rw [List.map_map]
 exact List.map_congr_left fun x _ => by show (x.kd, f (withT x t)) = _; rw [hf]
theorem thrS_with (own : List Ev) (t : Nat) : thrS (own.map (fun y => withT y t)) = thrS own := by
 unfold thrS
 rw [selN_with allU kdF own t (fun _ => rfl), selN_with ringB rgF own t (fun _ => rfl), selN_with ticketB tkF own t (fun _ => rfl), selN_with valueB vlF own t (fun _ => rfl)]
theorem map_opt {α β : Type} {o : Option α} {f : α → β} {b : β} (h : o.map f = some b) : ∃ a, o = some a ∧ f a = b := by
 cases o with
 | none => cases h
 | some a => exact ⟨a, rfl, Option.some.inj h⟩
theorem evT_text (s : ByteArray) (most : Int) : ∀ (t : Nat) (l : List Ev) (p : Nat), evT s 0 most t = some (l, p) → (∀ t' : Nat, t' < t → ∀ x ∈ ownE l (t' : Int), evC21 x) → (∀ x ∈ l, thF x < 255) →
  (restOf s 0).take p = strK l t ∧ (l.length : Int) ≤ most ∧ ∀ x ∈ l, x.tk < M64 ∧ x.vl < M64
 | 0, l, p, h, _, hth => by
  rw [evT] at h
  by_cases e : redE s 0 most = 0
  ·rw [if_pos e] at h
   simp only [Option.some.injEq, Prod.mk.injEq] at h
   obtain ⟨rfl, rfl⟩ := h
   obtain ⟨k, h1, h2⟩ := runs_text e
   have hms : ((redOf s 0 most).map thrE).map thF = redOf s 0 most := by
    have : ((redOf s 0 most).map thrE).map thF = (redOf s 0 most).map (fun n => min n 255) := by
     rw [List.map_map]
     refine List.map_congr_left fun n _ => ?_
     show (sm21 n).toNat = min n 255
     unfold sm21; omega
    rw [this]
    refine min_same fun y hy => ?_
    rw [← this] at hy
    obtain ⟨x, hx, rfl⟩ := List.mem_map.1 hy
    exact hth x hx
   refine ⟨?_, by rw [List.length_map]; exact redOf_le e, fun x hx => ?_⟩
   ·rw [h1, Nat.zero_add, h2, strK, hms]
   ·obtain ⟨n, _, rfl⟩ := List.mem_map.1 hx
    exact ⟨by show 0 < M64; decide, by show 0 < M64; decide⟩
  ·rw [if_neg e] at h; cases h
 | t + 1, l, p, h, hC, hth => by
  rw [evT] at h
  obtain ⟨⟨l0, p0⟩, h0, h1⟩ := bind_open h
  simp only at h1
  by_cases e0 : (ofE l0 (t : Int) l0.length).length = 0
  ·rw [if_pos e0] at h1
   simp only [Option.some.injEq, Prod.mk.injEq] at h1
   obtain ⟨rfl, rfl⟩ := h1
   obtain ⟨a, b, c⟩ := evT_text s most t l0 p0 h0 (fun t' ht' => hC t' (by omega)) hth
   refine ⟨?_, b, c⟩
   rw [a, strK]
   unfold strT
   rw [if_pos (by rw [← ofE_own]; exact e0), List.append_nil]
  ·rw [if_neg e0] at h1
   obtain ⟨⟨own, p1⟩, hr, hq⟩ := map_opt h1
   simp only [Prod.mk.injEq] at hq
   obtain ⟨hput, rfl⟩ := hq
   have hlen : own.length = (ofE l0 (t : Int) l0.length).length := by
    rw [rdT] at hr
    obtain ⟨⟨o2, q2⟩, h2, h3⟩ := bind_open hr
    rw [rdT] at h2
    obtain ⟨⟨o1, q1⟩, h1', h2⟩ := bind_open h2
    rw [rdT] at h1'
    obtain ⟨⟨o0, q0⟩, h0', h1'⟩ := bind_open h1'
    rw [rdT] at h0'
    rw [fillR_length (stepR_open h3).2.1]
    show o2.length = _
    rw [fillR_length (stepR_open h2).2.1]
    show o1.length = _
    rw [fillR_length (stepR_open h1').2.1]
    show o0.length = _
    rw [fillR_length (stepR_open h0').2.1, List.length_replicate]
   rw [put_merge hlen] at hput
   obtain ⟨m1, m2, m3, m4⟩ := merge_ok t l0 own (by rw [hlen, ofE_own])
   rw [hput] at m1 m2 m3 m4
   have hthl : ∀ x ∈ l0, thF x < 255 := fun x hx => by
    obtain ⟨k, hk⟩ := List.getElem?_of_mem hx
    have := congrArg (fun l => l[k]?) m1
    simp only [List.getElem?_map, hk] at this
    rcases hy : l[k]? with _ | y
    ·rw [hy] at this; cases this
    ·rw [hy] at this
     have e : y.th = x.th := Option.some.inj this
     have h9 := hth y (List.mem_of_getElem? hy)
     unfold thF at h9 ⊢; rw [← e]; exact h9
   obtain ⟨a, b, c⟩ := evT_text s most t l0 p0 h0 (fun t' ht' x hx => hC t' (by omega) x (by rw [m3 t' (by omega)]; exact hx)) hthl
   have hCo : ∀ x ∈ own, kdF x < 255 ∧ rgF x < 255 := fun x hx => by
    have := hC t (by omega) (withT x t) (by rw [m2]; exact List.mem_map.2 ⟨x, hx, rfl⟩)
    exact this
   obtain ⟨_, ⟨k, hk1, hk2⟩, hk3⟩ := thr_text hr hCo
   refine ⟨?_, ?_, ?_⟩
   ·subst hk1
    have hst : strK l t = strK l0 t := strK_of m1 t (fun t' ht' => m3 t' (by omega))
    rw [strK, hst]
    have hT : strT l t = thrS own := by
     unfold strT
     rw [m2, List.length_map, if_neg (by omega), thrS_with]
    rw [hT]
    refine take_two _ _ _ _ _ a ?_
    rw [← hk2]
    unfold restOf
    rw [List.drop_zero]
   ·have : l.length = l0.length := by have := congrArg List.length m1; simpa using this
    rw [this]; exact b
   ·intro x hx
    obtain ⟨k', hk'⟩ := List.getElem?_of_mem hx
    by_cases hxt : x.th = (t : Int)
    ·have hmem : x ∈ ownE l (t : Int) := List.mem_filter.2 ⟨hx, by simpa using hxt⟩
     rw [m2] at hmem
     obtain ⟨y, hy, rfl⟩ := List.mem_map.1 hmem
     exact hk3 y hy
    ·have hmem : x ∈ ownE l x.th := List.mem_filter.2 ⟨hx, by simp⟩
     rw [m3 _ hxt] at hmem
     exact c x (List.mem_filter.1 hmem).1
theorem right_c {x : Ev} (h : rightE x = true) : evC21 x ∧ thF x < 255 := by
 have := right_in h
 unfold evC21 kdF rgF thF
 omega
theorem rdS_open {X : ByteArray} {most : Int} {l : List Ev} (h : rdS X most = (0, l)) : X.data.toList = strS l ∧ (chE l).2 = 0 ∧ (l.length : Int) ≤ most ∧ ∀ x ∈ l, x.tk < M64 ∧ x.vl < M64 := by
 unfold rdS at h
 rcases he : evT X 0 most 8 with _ | ⟨l0, p⟩
 ·rw [he] at h; simp at h
 ·rw [he] at h
  simp only at h
  by_cases hp : p < X.size
  ·rw [if_pos hp] at h; simp at h
  ·rw [if_neg hp] at h
   by_cases hc : (chE l0).2 = 0
   ·rw [if_pos hc] at h
    simp only [Prod.mk.injEq, true_and] at h
    subst h
    have hR := (chE_zero hc).2
    obtain ⟨a, b, c⟩ := evT_text X most 8 l0 p he (fun t' _ x hx => (right_c (hR x (List.mem_filter.1 hx).1)).1) (fun x hx => (right_c (hR x hx)).2)
    refine ⟨?_, hc, b, c⟩
    unfold restOf at a
    rw [List.drop_zero, List.take_of_length_le (by show X.data.toList.length ≤ p; rw [Array.length_toList]; show X.size ≤ p; omega)] at a
    exact a
   ·rw [if_neg hc] at h; simp at h
theorem unE_same {s : ByteArray} {M : Int} (h : unE s M = 0) : textB (pkT (unT s M)) = s ∧ ((unT s M).length : Int) ≤ M := by
 have h1 : unT s M = unTx s := by unfold unT; rw [if_pos h]
 rw [h1]
 have h2 := dcT_length (unL s) (s.extract (unZ s) s.size) (rd (restOf s 0)).1
 unfold unE at h
 by_cases c0 : M < 0
 ·rw [if_pos c0] at h; exact absurd h (by decide)
 rw [if_neg c0] at h
 by_cases c1 : (rd (restOf s 0)).2.1 ≠ 0
 ·rw [if_pos c1] at h; exact absurd h (by decide)
 rw [if_neg c1] at h
 by_cases c2 : M < ((rd (restOf s 0)).1 : Int)
 ·rw [if_pos c2] at h; exact absurd h (by decide)
 rw [if_neg c2] at h
 refine ⟨?_, by unfold unTx; omega⟩
 by_cases c3 : textB (pkT (unTx s)) = s
 ·exact c3
 ·rw [if_neg c3] at h
  split at h
  ·exact absurd h (by decide)
  ·split at h <;> exact absurd h (by decide)
theorem ok_of_right {x : Ev} (h : rightE x = true) (hn : x.tk < M64 ∧ x.vl < M64) : evOk x := by
 have := right_in h
 unfold M64 at hn
 unfold evOk evI64
 omega
theorem rdC_text {s : ByteArray} {most : Int} {l : List Ev} (h : rdC s most = (0, l)) : textB (prV l) = s ∧ (chE l).2 = 0 ∧ (l.length : Int) ≤ most ∧ ∀ x ∈ l, evOk x := by
 unfold rdC at h
 by_cases c : most < 0 ∨ 65536 < most
 ·rw [if_pos c] at h; simp at h
 rw [if_neg c] at h
 by_cases hu : unE s 4194304 = 0
 ·rw [if_pos hu] at h
  obtain ⟨a, b, d, e⟩ := rdS_open h
  have hs := (unE_same hu).1
  refine ⟨?_, b, d, fun x hx => ok_of_right ((chE_zero b).2 x hx) (e x hx)⟩
  rw [prV_ok b, ← a]
  exact hs
 ·rw [if_neg hu] at h; simp at h
theorem rdC_bad {s : ByteArray} {most : Int} (h : (rdC s most).1 ≠ 0) : rdC s most = (if most < 0 ∨ 65536 < most then 1 else 3, []) := by
 unfold rdC at h ⊢
 by_cases c : most < 0 ∨ 65536 < most
 ·rw [if_pos c, if_pos c]
 rw [if_neg c] at h
 rw [if_neg c, if_neg c]
 by_cases hu : unE s 4194304 = 0
 ·rw [if_pos hu] at h ⊢
  unfold rdS at h ⊢
  rcases he : evT (textB (unT s 4194304)) 0 most 8 with _ | ⟨l0, p⟩
  ·rfl
  ·rw [he] at h
   simp only at h ⊢
   by_cases hp : p < (textB (unT s 4194304)).size
   ·rw [if_pos hp]
   ·rw [if_neg hp] at h ⊢
    by_cases hc : (chE l0).2 = 0
    ·rw [if_pos hc] at h; exact absurd rfl h
    ·rw [if_neg hc]
 ·rw [if_neg hu]
theorem append_argS_at {P : Program} {ops : Array Oper} {rest : List Oper} {o : Oper} {a : Act} {Q : Exit → Act → World → Prop} (w : World) (sz : Nat)
  (hg : o.guard = none) (s y : Operand) (t : TypeId) (hop : o.op = Op.call { callee := Callee.builtin Builtin.append, args := #[s, y], argTypes := #[t, t] })
  (base : Nat) (e : TypeId) (z : Value) (bytes : Nat) (ht : P.underlying t = some (.slice e)) (hi : (P.info? e).map (fun i => (i.zero, i.size, i.bytes)) = some (some z, sz, bytes))
  (hzs : z.cells.size = sz) (hsz : 0 < sz)
  (v : Value) (n : Nat) (ys : List Value) (hs : a.eval s = v) (hown : w.ownsRow base e sz v n ys) (A : Option Addr) (len cap : Nat) (hy : a.eval y = .slice A len cap)
  (xs : List Value) (hx : SeqS w sz (.slice A len cap) len xs) (h1 : ∀ u ∈ xs, u.oneCell' = true)
  (b1 : n + len ≤ maxLen) (b2 : (n + len) * bytes ≤ 140737488355328) (b3 : base ≤ w.heap.size)
  (hK : ∀ v' w', w'.ownsRow base e sz v' (n + len) (ys ++ xs) → Below base w w' → w.grownBy w' v.ownBlock → (v'.ownBlock = v.ownBlock ∨ (v'.ownBlock = some w.heap.size ∧ w.heap.size < w'.heap.size)) → wpList P ops Q rest (a.put o.dst v') w') :
  wpList P ops Q (o :: rest) a w := by
 obtain ⟨i0, hi, hz0, hz1, hz2⟩ := info_parts hi
 obtain ⟨hl, A', c', e1, hlc, hcm, h0, hcell⟩ := hx
 simp only [Value.slice.injEq, true_and] at e1
 obtain ⟨rfl, rfl⟩ := e1
 cases A with
 | none =>
  have hc0 := h0 rfl
  subst hc0
  obtain rfl : len = 0 := by omega
  have hx0 : xs = [] := List.length_eq_zero_iff.1 (by simpa using hl)
  subst hx0
  refine wpList_append_own_none hg s y t hop base e i0 sz ht hi v n ys hs hown hy ?_
  exact hK v w (by simpa using hown) (Below.refl _ _) ⟨rfl, rfl, rfl, Nat.le_refl _, fun _ _ _ => rfl⟩ (.inl rfl)
 | some ad =>
  refine wpList_append_own_at _ hg s y t hop base e i0 z sz bytes ht hi hz0 hz1 hz2 hzs hsz v n ys hs hown ad len cap xs hy hl ?_ h1 b1 b2 b3 ?_
  ·intro j u hj
   obtain ⟨b, off, he, hc⟩ := hcell j u hj
   injection he with he
   subst he
   rw [addr_plus]; exact hc
  ·intro v' w' ho hgr _ hat
   refine hK v' w' ho ((Below.refl _ _).grown hgr b3 (fun k hk => (hown.lt k hk).1)) hgr ?_
   rcases hat with hat | hat
   ·exact .inl hat
   ·exact .inr ⟨hat, (ho.lt _ hat).2⟩
set_option maxHeartbeats 2000000 in
set_option maxRecDepth 100000 in
theorem names21 (x : Ev) (c : Nat) (w : World) (hc : c < 256) : Calls Tryz.prog 24 #[.agg (evC x), .int .u8 (c : Int)] w fun e w' => e = .returned (.bool (hasB (nmsB x.kd) c 0)) ∧ Below w.heap.size w w' := by
 have HL := Lib.hid (Lies.made w 36 (evC x))
 have HB := Lib.hid ((Below.refl w.heap.size w).alloc (Nat.le_refl _) (.cells (evC x) 36))
 have HNM := Lib.hid (fun w => rfNames x.kd w)
 have hsz := nms_size x.kd
 generalize nmsB x.kd = s at *
 go_enter Tryz.func24, Tryz.ntmps24
 go_wp2_with fail
 obtain ⟨q, hq⟩ : ∃ q, q = w.heap.size := ⟨_, rfl⟩
 rw [← hq] at HL ⊢
 clear hq
 generalize w.alloc (.cells (evC x) 36) = w0 at *
 have d1 := (HL.out.cell 1).trans (show _ = some (Value.int .i64 x.kd) from rfl)
 have ql := HL.out.lt
 go_wp2_with fail
 refine (HNM.out w0).mono ?_
 rintro e w1 ⟨rfl, rfl⟩
 clear d1 ql HL HNM
 go_wp2_with fail
 go_loopw [6] (fun u wr => ∃ i : Nat, i ≤ s.size ∧ u = .int .i64 i ∧ Hid (hasB s c 0 = hasB s c i) ∧ wr = w0) (fun u _ => s.size - (intOf u).toNat)
 case atStart => exact ⟨0, by omega, rfl, (by show _ = _; rfl), rfl⟩
 case round =>
  obtain ⟨i, hi, rfl, hq, rfl⟩ := hrel
  by_cases hlt : i < s.size
  ·have hii : (i : Int) < (s.size : Int) := by omega
   have hn := hasB_next (c := c) hlt
   obtain ⟨x, hx⟩ : ∃ x, (s[i]'hlt).toNat = x := ⟨_, rfl⟩
   rw [hx] at hn
   by_cases he : x = c
   ·have HE : Hid (hasB s c 0 = true) := by
     show _ = _
     rw [hq.out, hn, he]; simp
    clear hn hq
    subst he
    have e1 : ((x : Int) == (x : Int)) = true := by simp
    go_wp2
    go_ret
    exact ⟨ret_bool (by rw [HE.out]), HB.out⟩
   ·have HQ : Hid (hasB s c 0 = hasB s c (i + 1)) := by
     show _ = _
     rw [hq.out, hn, beq_eq_false_iff_ne.2 he]; rfl
    have e1 : ((x : Int) == (c : Int)) = false := by rw [beq_eq_false_iff_ne]; omega
    have e2 : (x == c) = false := beq_eq_false_iff_ne.2 he
    clear hn hq
    go_wp2
    go_roundw
    case rel => exact ⟨i + 1, by omega, by go_num, HQ, trivial⟩
    case measure => simp [intOf]; omega
  ·obtain rfl : i = s.size := by omega
   have HE : Hid (hasB s c 0 = false) := hq.out.trans (hasB_end s c)
   clear hq
   go_wp2
   go_ret
   exact ⟨ret_bool (by rw [HE.out]), HB.out⟩
theorem namesR (x : Ev) (w : World) : Calls Tryz.prog 24 #[.agg (evC x), .int .u8 82] w fun e w' => e = .returned (.bool (ringB x.kd)) ∧ Below w.heap.size w w' := by
 have h := names21 x 82 w (by omega)
 rw [has_ring] at h
 exact h
theorem namesT (x : Ev) (w : World) : Calls Tryz.prog 24 #[.agg (evC x), .int .u8 84] w fun e w' => e = .returned (.bool (ticketB x.kd)) ∧ Below w.heap.size w w' := by
 have h := names21 x 84 w (by omega)
 rw [has_ticket] at h
 exact h
theorem namesV (x : Ev) (w : World) : Calls Tryz.prog 24 #[.agg (evC x), .int .u8 86] w fun e w' => e = .returned (.bool (valueB x.kd)) ∧ Below w.heap.size w w' := by
 have h := names21 x 86 w (by omega)
 rw [has_value] at h
 exact h
def Apt (u v : Value) : Prop := ∀ k, u.ownBlock = some k → v.ownBlock ≠ some k
theorem Apt.symm {u v : Value} (h : Apt u v) : Apt v u := fun k h1 h2 => h k h2 h1
def RowU (w : World) (B : Nat) (v : Value) (xs : List Nat) : Prop := w.ownsRow B 34 1 v xs.length (cells64 xs)
theorem RowU.kept_by {w w' : World} {B : Nat} {u v : Value} {xs : List Nat} (h : RowU w B u xs) (hg : w.grownBy w' v.ownBlock) (ha : Apt u v) : RowU w' B u xs :=
 owns_kept h (Kept.of_grown hg) (fun r cur h1 _ h2 => ha r h1 h2)
theorem RowU.below {w w' : World} {B : Nat} {u : Value} {xs : List Nat} (h : RowU w B u xs) (hb : Below w.heap.size w w') : RowU w' B u xs := owned_below h hb
theorem Apt.new {w : World} {B : Nat} {u v v' : Value} {xs : List Nat} (h : RowU w B u xs) (ha : Apt u v) (hat : v'.ownBlock = v.ownBlock ∨ ∃ n, v'.ownBlock = some n ∧ w.heap.size ≤ n) : Apt u v' := fun k h1 h2 => by
 rcases hat with e | ⟨n, e, hn⟩
 ·exact ha k h1 (e ▸ h2)
 ·rw [e] at h2
  have hk : n = k := Option.some.inj h2
  rcases owns_row h with ⟨rfl, _⟩ | ⟨r, cap, cur, rfl, _, hl, _⟩
  ·cases h1
  ·have h3 : r = k := Option.some.inj h1
   have := hl.lt
   omega
def Row4 (w : World) (B : Nat) (a b c d : Value) (A E C D : List Nat) : Prop :=
 (RowU w B a A ∧ RowU w B b E ∧ RowU w B c C ∧ RowU w B d D) ∧ Apt a b ∧ Apt a c ∧ Apt a d ∧ Apt b c ∧ Apt b d ∧ Apt c d
theorem Row4.nil (w : World) (B : Nat) : Row4 w B (.slice none 0 0) (.slice none 0 0) (.slice none 0 0) (.slice none 0 0) [] [] [] [] := by
 have h : RowU w B (.slice none 0 0) [] := World.ownsRow_nil _ _ _ _
 have k : Apt (.slice none 0 0) (.slice none 0 0) := fun k h => by cases h
 exact ⟨⟨h, h, h, h⟩, k, k, k, k, k, k⟩
theorem Row4.below {w w' : World} {B : Nat} {a b c d : Value} {A E C D : List Nat} (h : Row4 w B a b c d A E C D) (hb : Below w.heap.size w w') : Row4 w' B a b c d A E C D :=
 ⟨⟨h.1.1.below hb, h.1.2.1.below hb, h.1.2.2.1.below hb, h.1.2.2.2.below hb⟩, h.2⟩
theorem Row4.turn {w : World} {B : Nat} {a b c d : Value} {A E C D : List Nat} (h : Row4 w B a b c d A E C D) : Row4 w B b c d a E C D A := by
 obtain ⟨⟨h1, h2, h3, h4⟩, k1, k2, k3, k4, k5, k6⟩ := h
 exact ⟨⟨h2, h3, h4, h1⟩, k4, k5, k1.symm, k6, k2.symm, k3.symm⟩
theorem append_four {P : Program} {ops : Array Oper} {rest : List Oper} {o : Oper} {act : Act} {Q : Exit → Act → World → Prop} (w : World) (x : Nat)
  (hg : o.guard = none) (s y : Operand) (t : TypeId) (hop : o.op = Op.call { callee := Callee.builtin Builtin.append, args := #[s, y], argTypes := #[t, t] })
  (B : Nat) (z : Value) (bytes : Nat) (ht : P.underlying t = some (.slice 34)) (hi : (P.info? 34).map (fun i => (i.zero, i.size, i.bytes)) = some (some z, 1, bytes))
  (hzs : z.cells.size = 1) {a b c d : Value} {A E C D : List Nat} (h : Row4 w B a b c d A E C D) (hs : act.eval s = a) (hy : act.eval y = .slice (some ⟨w.heap.size, 0, none⟩) 1 1)
  (b1 : A.length + 1 ≤ maxLen) (b2 : (A.length + 1) * bytes ≤ 140737488355328) (b3 : B ≤ w.heap.size)
  (hK : ∀ a' w', Row4 w' B a' b c d (A ++ [x]) E C D → Below B w w' → (∀ g t cs, Lies w g t cs → t ≠ 34 → Lies w' g t cs) → wpList P ops Q rest (act.put o.dst a') w') :
  wpList P ops Q (o :: rest) act (w.alloc (.cells #[.int .u64 (x : Int)] 34)) := by
 have hb0 := (Below.refl w.heap.size w).alloc (Nat.le_refl _) (.cells #[.int .u64 (x : Int)] 34)
 obtain ⟨⟨h1, h2, h3, h4⟩, k1, k2, k3, k4, k5, k6⟩ := h.below hb0
 have hsz : (w.alloc (.cells #[.int .u64 (x : Int)] 34)).heap.size = w.heap.size + 1 := by simp
 have hl := Lies.made w 34 #[.int .u64 (x : Int)]
 refine append_argS_at (w.alloc (.cells #[.int .u64 (x : Int)] 34)) 1 hg s y t hop B 34 z bytes ht hi hzs (by decide) a A.length (cells64 A) hs h1 (some ⟨w.heap.size, 0, none⟩) 1 1 hy [.int .u64 (x : Int)] ⟨rfl, some ⟨w.heap.size, 0, none⟩, 1, rfl, Nat.le_refl _, by decide, (fun e => by cases e), fun j u hu => ?_⟩ (fun u hu => by simp at hu; subst hu; rfl) b1 b2 (by omega) ?_
 ·refine ⟨w.heap.size, 0, rfl, ?_⟩
  rw [Nat.zero_add, hl.cell]
  simpa using hu
 ·intro a' w' ho hb hgr hat
  have hat2 : a'.ownBlock = a.ownBlock ∨ ∃ n, a'.ownBlock = some n ∧ (w.alloc (.cells #[.int .u64 (x : Int)] 34)).heap.size ≤ n := by
   rcases hat with e | ⟨e, _⟩
   ·exact .inl e
   ·exact .inr ⟨_, e, Nat.le_refl _⟩
  refine hK a' w' ⟨⟨?_, h2.kept_by hgr k1.symm, h3.kept_by hgr k2.symm, h4.kept_by hgr k3.symm⟩, (Apt.new h2 k1.symm hat2).symm, (Apt.new h3 k2.symm hat2).symm, (Apt.new h4 k3.symm hat2).symm, k4, k5, k6⟩ ?_ ?_
  ·show w'.ownsRow B _ 1 a' (A ++ [x]).length (cells64 (A ++ [x]))
   have e : cells64 (A ++ [x]) = cells64 A ++ [.int .u64 (x : Int)] := by simp [cells64]
   rw [e, List.length_append]; exact ho
  ·exact Below.trans (hb0.mono b3) hb
  ·exact fun g t cs hl ht => (hl.below hb0 hl.lt).kept (Kept.of_grown hgr) (fun e => own_ne h1 (hl.below hb0 hl.lt) (Ne.symm ht) e)
set_option maxHeartbeats 1000000 in
set_option maxRecDepth 100000 in
theorem refPrint4 (v : Value) (l : List Nat) (w : World) (h : SeqAt w v (cells64 l)) (hl : l.length ≤ 1099511627776) (hm : ∀ n ∈ l, n < M64) :
  Calls Tryz.prog 23 #[v] w fun e w' => e = .returned (.string (textB (printR l))) ∧ Below w.heap.size w w' := by
 have hP := refPack v l w h hl hm
 have hin := packs_in l
 have hpm := packs_mem l hm
 have HR : Hid (printR l = enc (packs l).length ++ bodyR (packs l)) := rfl
 generalize packs l = rs at *
 obtain ⟨hrl, hrc⟩ := hin
 have hrl2 : rs.length ≤ 1099511627776 := by omega
 have HP := Lib.hid hP
 clear hP h
 go_enter Tryz.func23, Tryz.ntmps23
 go_wp2_with fail
 refine HP.out.mono ?_
 rintro e w1 ⟨vr, rfl, ho, hb1⟩
 obtain ⟨A, cp, rfl, hc1, hc2, _⟩ := (SeqS.of_owns ho).form
 unfold maxLen at hc2
 have HO := Lib.hid ho
 clear ho HP
 go_wp2_with fail
 refine (refPrint rs.length w1 (by unfold M64; omega)).mono ?_
 rintro e w2 ⟨rfl, hb2⟩
 have ho2 := SeqS.of_owns (owns_below HO.out hb2)
 have hb1 := hb1.trans (hb2.mono hb1.size)
 clear HO hb2
 have HO := Lib.hid ho2
 clear ho2
 have he := enc_length rs.length
 go_wp2
 go_loopw [4, 5] (fun t c wr => ∃ k : Nat, k ≤ rs.length ∧ c = .int .i64 k ∧ t = .string (textB (enc rs.length ++ bodyR (rs.take k))) ∧ SeqS wr 2 (.slice A rs.length cp) rs.length (cells2 rs) ∧ Below w.heap.size w wr)
  (fun _ c _ => rs.length - (intOf c).toNat)
 case atStart => exact ⟨0, by omega, rfl, by simp [bodyR], HO.out, hb1⟩
 case round =>
  clear HO hb1
  obtain ⟨k, hk, rfl, rfl, ho, hb⟩ := hrel
  by_cases hlt : k < rs.length
  ·have hki : (k : Int) < (rs.length : Int) := by omega
   have hg : rs[k]? = some rs[k] := List.getElem?_eq_getElem hlt
   obtain ⟨b, off, rfl, c1, c2⟩ := seq2_at ho hg hlt
   have hnx := bodyR_next hg
   have hpm := hpm _ (List.getElem_mem hlt)
   have hpc := hrc _ (List.getElem_mem hlt)
   have hbl := bodyR_length (rs.take k)
   rw [List.length_take, Nat.min_eq_left hk] at hbl
   generalize rs[k] = p at *
   obtain ⟨x, c⟩ := p
   simp only at c1 c2 hnx hpm hpc
   have he1 := enc_length x
   have he2 := enc_length (c - 1)
   have hvx := fun w => refPrint x w hpm
   have hvc := fun w => refPrint (c - 1) w (by unfold M64; omega)
   rw [show ((c - 1 : Nat) : Int) = (c : Int) - 1 by omega] at hvc
   have HVX := Lib.hid hvx
   have HVC := Lib.hid hvc
   have HNX := Lib.hid hnx
   unfold M64 at hpm
   generalize enc x = ex at *
   generalize enc (c - 1) = ec at *
   generalize hd : enc rs.length ++ bodyR (rs.take k) = d at *
   have hdl : d.length ≤ 10 + 20 * k := by rw [← hd, List.length_append]; omega
   have HD := Lib.hid hd
   have hci1 : (1 : Int) ≤ (c : Int) := by omega
   have hci2 : (c : Int) ≤ 1099511627776 := by omega
   have hs1 : (textB ex).size + (textB ec).size ≤ 9223372036854775807 := by rw [textB_size, textB_size]; omega
   have hs2 : (textB d).size + ((textB ex).size + (textB ec).size) ≤ 9223372036854775807 := by rw [textB_size, textB_size, textB_size]; omega
   have ht : textB d ++ (textB ex ++ textB ec) = textB (enc rs.length ++ bodyR (rs.take (k + 1))) := by rw [text_append, text_append, ← HD.out, HNX.out, List.append_assoc]
   have HT := Lib.hid ht
   have hwr : IntKind.u64.wrap ((c : Int) - 1) = (c : Int) - 1 := by rw [IntKind.wrap_u64]; omega
   clear hvx hvc hnx hd ht hg hbl he1 he2
   have hKeep : Hid (∀ a b' : World, Below a.heap.size a b' → (a.cell? ⟨b, off + k * 2, none⟩ = some (.int .u64 (x : Int)) ∧ a.cell? ⟨b, off + k * 2 + 1, none⟩ = some (.int .u64 (c : Int)) ∧ SeqS a 2 (.slice (some ⟨b, off, none⟩) rs.length cp) rs.length (cells2 rs)) →
     (b'.cell? ⟨b, off + k * 2, none⟩ = some (.int .u64 (x : Int)) ∧ b'.cell? ⟨b, off + k * 2 + 1, none⟩ = some (.int .u64 (c : Int)) ∧ SeqS b' 2 (.slice (some ⟨b, off, none⟩) rs.length cp) rs.length (cells2 rs))) :=
    fun a b' hb h => ⟨cell_later h.1 hb, cell_later h.2.1 hb, h.2.2.later hb⟩
   have hbd := hb.drew
   have hbs : w.heap.size ≤ wr.drew.heap.size := hb.size
   have hSd := ho.drew
   have c1d : wr.drew.cell? ⟨b, off + k * 2, none⟩ = some (.int .u64 (x : Int)) := c1
   have c2d : wr.drew.cell? ⟨b, off + k * 2 + 1, none⟩ = some (.int .u64 (c : Int)) := c2
   clear c1 c2 ho hb
   go_wp2_with fail
   try simp only [Act.put, List.setIfInBounds_toArray, List.set_cons_zero, List.set_cons_succ]
   refine wp_region_held_drew (S := fun w' => (w'.cell? ⟨b, off + k * 2, none⟩ = some (.int .u64 (x : Int)) ∧ w'.cell? ⟨b, off + k * 2 + 1, none⟩ = some (.int .u64 (c : Int)) ∧ SeqS w' 2 (.slice (some ⟨b, off, none⟩) rs.length cp) rs.length (cells2 rs)) ∧ Below w.heap.size w w' ∧ w.heap.size ≤ w'.heap.size) (by kernel_rfl) ⟨⟨c1d, c2d, hSd⟩, hbd, hbs⟩ (fun hHeld => ?_)
   clear c1d c2d hSd hbd hbs
   refine wpAnyH_take (i := 0) (v := (.string (textB d))) rfl (by kernel_rfl) (by kernel_rfl) (by kernel_rfl) (fun _ _ _ h => h) (Or.inl ⟨by rfl, fun w h => by (simp only [List.getElem_toArray, List.getElem_cons_succ, List.getElem_cons_zero]; clear h; go_simp)⟩) (by assumption) ?_
   simp only [Act.put, List.getElem_toArray, List.getElem_cons_succ, List.getElem_cons_zero, List.setIfInBounds_toArray, List.set_cons_zero, List.set_cons_succ]
   refine wpAnyH_take (i := 1) (v := (.slice (some ⟨b, off, none⟩) rs.length cp)) rfl (by kernel_rfl) (by kernel_rfl) (by kernel_rfl) (fun _ _ _ h => h) (Or.inl ⟨by rfl, fun w h => by (simp only [List.getElem_toArray, List.getElem_cons_succ, List.getElem_cons_zero]; clear h; go_simp)⟩) (by assumption) ?_
   simp only [Act.put, List.getElem_toArray, List.getElem_cons_succ, List.getElem_cons_zero, List.setIfInBounds_toArray, List.set_cons_zero, List.set_cons_succ]
   refine wpAnyH_take (i := 2) (v := (.int .i64 k)) rfl (by kernel_rfl) (by kernel_rfl) (by kernel_rfl) (fun _ _ _ h => h) (Or.inl ⟨by rfl, fun w h => by (simp only [List.getElem_toArray, List.getElem_cons_succ, List.getElem_cons_zero]; clear h; go_simp)⟩) (by assumption) ?_
   simp only [Act.put, List.getElem_toArray, List.getElem_cons_succ, List.getElem_cons_zero, List.setIfInBounds_toArray, List.set_cons_zero, List.set_cons_succ]
   refine wpAnyH_take (i := 3) (v := (.pointer (some ⟨b, off + k * 2, none⟩))) rfl (by kernel_rfl) (by kernel_rfl) (by kernel_rfl) (fun _ _ _ h => h) (Or.inl ⟨by rfl, fun w h => by (simp only [List.getElem_toArray, List.getElem_cons_succ, List.getElem_cons_zero]; clear h; go_simp)⟩) (by assumption) ?_
   simp only [Act.put, List.getElem_toArray, List.getElem_cons_succ, List.getElem_cons_zero, List.setIfInBounds_toArray, List.set_cons_zero, List.set_cons_succ]
   refine wpAnyH_take (i := 4) (v := (.pointer (some ⟨b, off + k * 2, none⟩))) rfl (by kernel_rfl) (by kernel_rfl) (by kernel_rfl) (fun _ _ _ h => h) (Or.inl ⟨by rfl, fun w h => by (simp only [List.getElem_toArray, List.getElem_cons_succ, List.getElem_cons_zero]; clear h; go_simp)⟩) (by assumption) ?_
   simp only [Act.put, List.getElem_toArray, List.getElem_cons_succ, List.getElem_cons_zero, List.setIfInBounds_toArray, List.set_cons_zero, List.set_cons_succ]
   refine wpAnyH_take (i := 5) (v := (.int .u64 x)) rfl (by kernel_rfl) (by kernel_rfl) (by kernel_rfl) (fun _ _ _ h => h) (Or.inl ⟨by rfl, fun w h => by (simp only [List.getElem_toArray, List.getElem_cons_succ, List.getElem_cons_zero]; have h1 := h.1.1; clear h; go_simp)⟩) (by assumption) ?_
   simp only [Act.put, List.getElem_toArray, List.getElem_cons_succ, List.getElem_cons_zero, List.setIfInBounds_toArray, List.set_cons_zero, List.set_cons_succ]
   refine wpAnyH_take (i := 7) (v := (.slice (some ⟨b, off, none⟩) rs.length cp)) rfl (by kernel_rfl) (by kernel_rfl) (by kernel_rfl) (fun _ _ _ h => h) (Or.inl ⟨by rfl, fun w h => by (simp only [List.getElem_toArray, List.getElem_cons_succ, List.getElem_cons_zero]; clear h; go_simp)⟩) (by assumption) ?_
   simp only [Act.put, List.getElem_toArray, List.getElem_cons_succ, List.getElem_cons_zero, List.setIfInBounds_toArray, List.set_cons_zero, List.set_cons_succ]
   refine wpAnyH_take (i := 8) (v := (.int .i64 k)) rfl (by kernel_rfl) (by kernel_rfl) (by kernel_rfl) (fun _ _ _ h => h) (Or.inl ⟨by rfl, fun w h => by (simp only [List.getElem_toArray, List.getElem_cons_succ, List.getElem_cons_zero]; clear h; go_simp)⟩) (by assumption) ?_
   simp only [Act.put, List.getElem_toArray, List.getElem_cons_succ, List.getElem_cons_zero, List.setIfInBounds_toArray, List.set_cons_zero, List.set_cons_succ]
   refine wpAnyH_take (i := 9) (v := (.pointer (some ⟨b, off + k * 2, none⟩))) rfl (by kernel_rfl) (by kernel_rfl) (by kernel_rfl) (fun _ _ _ h => h) (Or.inl ⟨by rfl, fun w h => by (simp only [List.getElem_toArray, List.getElem_cons_succ, List.getElem_cons_zero]; clear h; go_simp)⟩) (by assumption) ?_
   simp only [Act.put, List.getElem_toArray, List.getElem_cons_succ, List.getElem_cons_zero, List.setIfInBounds_toArray, List.set_cons_zero, List.set_cons_succ]
   refine wpAnyH_take (i := 10) (v := (.pointer (some ⟨b, off + k * 2 + 1, none⟩))) rfl (by kernel_rfl) (by kernel_rfl) (by kernel_rfl) (fun _ _ _ h => h) (Or.inl ⟨by rfl, fun w h => by (simp only [List.getElem_toArray, List.getElem_cons_succ, List.getElem_cons_zero]; clear h; go_simp)⟩) (by assumption) ?_
   simp only [Act.put, List.getElem_toArray, List.getElem_cons_succ, List.getElem_cons_zero, List.setIfInBounds_toArray, List.set_cons_zero, List.set_cons_succ]
   refine wpAnyH_take (i := 11) (v := (.int .u64 c)) rfl (by kernel_rfl) (by kernel_rfl) (by kernel_rfl) (fun _ _ _ h => h) (Or.inl ⟨by rfl, fun w h => by (simp only [List.getElem_toArray, List.getElem_cons_succ, List.getElem_cons_zero]; have h1 := h.1.2.1; clear h; go_simp)⟩) (by assumption) ?_
   simp only [Act.put, List.getElem_toArray, List.getElem_cons_succ, List.getElem_cons_zero, List.setIfInBounds_toArray, List.set_cons_zero, List.set_cons_succ]
   refine wpAnyH_take (i := 12) (v := (.int .u64 ((c : Int) - 1))) rfl (by kernel_rfl) (by kernel_rfl) (by kernel_rfl) (fun _ _ _ h => h) (Or.inl ⟨by rfl, fun w h => by (simp only [List.getElem_toArray, List.getElem_cons_succ, List.getElem_cons_zero]; clear h; go_simp)⟩) (by assumption) ?_
   simp only [Act.put, List.getElem_toArray, List.getElem_cons_succ, List.getElem_cons_zero, List.setIfInBounds_toArray, List.set_cons_zero, List.set_cons_succ]
   refine wpAnyH_ready (rs := [6]) (by kernel_rfl) (by simp) ?_
   refine AllReadyH.cons rfl (fun K hK => ?_) AllReadyH.nil
   rw [if_pos (by rfl)]
   go_wp2_with fail
   refine (keep_callS hKeep.out (HVX.out _) (by assumption)).mono ?_
   rintro e w' ⟨he, q⟩
   cases he
   dsimp only
   refine hK.out _ _ q (fun hHeld => ?_)
   clear hK K
   try simp only [Act.put, List.setIfInBounds_toArray, List.set_cons_zero, List.set_cons_succ]
   refine wpAnyH_ready (rs := [13]) (by kernel_rfl) (by simp) ?_
   refine AllReadyH.cons rfl (fun K hK => ?_) AllReadyH.nil
   rw [if_pos (by rfl)]
   go_wp2_with fail
   refine (keep_callS hKeep.out (HVC.out _) (by assumption)).mono ?_
   rintro e w' ⟨he, q⟩
   cases he
   dsimp only
   refine hK.out _ _ q (fun hHeld => ?_)
   clear hK K
   try simp only [Act.put, List.setIfInBounds_toArray, List.set_cons_zero, List.set_cons_succ]
   refine wpAnyH_take (i := 14) (v := (.string (textB ex ++ textB ec))) rfl (by kernel_rfl) (by kernel_rfl) (by kernel_rfl) (fun _ _ _ h => h) (Or.inl ⟨by rfl, fun w h => by (simp only [List.getElem_toArray, List.getElem_cons_succ, List.getElem_cons_zero]; clear h; go_simp)⟩) (by assumption) ?_
   simp only [Act.put, List.getElem_toArray, List.getElem_cons_succ, List.getElem_cons_zero, List.setIfInBounds_toArray, List.set_cons_zero, List.set_cons_succ]
   refine wpAnyH_take (i := 15) (v := (.string (textB (enc rs.length ++ bodyR (rs.take (k + 1)))))) rfl (by kernel_rfl) (by kernel_rfl) (by kernel_rfl) (fun _ _ _ h => h) (Or.inl ⟨by rfl, fun w h => by (simp only [List.getElem_toArray, List.getElem_cons_succ, List.getElem_cons_zero]; clear h; rw [← HT.out]; go_simp)⟩) (by assumption) ?_
   simp only [Act.put, List.getElem_toArray, List.getElem_cons_succ, List.getElem_cons_zero, List.setIfInBounds_toArray, List.set_cons_zero, List.set_cons_succ]
   refine wpAnyH_ready (rs := [16]) (by kernel_rfl) (by simp) ?_
   refine AllReadyH.cons rfl (fun K hK => ?_) AllReadyH.nil
   rw [if_pos (by rfl)]
   go_wp2_with fail
   refine hK.out _ _ (by assumption) (fun hHeld => ?_)
   clear hK K
   try simp only [Act.put, List.setIfInBounds_toArray, List.set_cons_zero, List.set_cons_succ]
   refine wpAnyH_done (by kernel_rfl) ?_ _
   obtain ⟨⟨_, _, hS⟩, hb, hbs⟩ := hHeld
   have HS := Lib.hid hS
   clear hS
   go_wp2
   go_roundw
   case rel => exact ⟨k + 1, by omega, by go_num, rfl, HS.out, hb⟩
   case measure => simp [intOf]; omega
  ·obtain rfl : k = rs.length := by omega
   rw [List.take_of_length_le (Nat.le_refl _), ← HR.out]
   go_wp2
   go_ret
   exact ⟨rfl, hb⟩
theorem up_sgn (a b : Nat) (ha : a < M64) (hb : b < M64) : IntKind.u64.wrap ((b : Int) - a) = (((b + (M64 - a)) % M64 : Nat) : Int) := by
 unfold M64 at *; rw [IntKind.wrap_u64]; omega
set_option maxHeartbeats 1000000 in
set_option maxRecDepth 100000 in
theorem refDeltas (v : Value) (xs : List Nat) (w : World) (h : SeqAt w v (cells64 xs)) (hx : ∀ n ∈ xs, n < M64) (hl : xs.length ≤ 1099511627776) :
  Calls Tryz.prog 49 #[v] w fun e w' => ∃ v', e = .returned v' ∧ w'.ownsRow w.heap.size 34 1 v' xs.length (cells64 (deltas 0 xs)) ∧ Below w.heap.size w w' := by
 have hh := h
 obtain ⟨A, c, rfl, _, hc2, _⟩ := hh
 have hcl : (cells64 xs).length = xs.length := by simp [cells64]
 rw [hcl] at *
 unfold maxLen at hc2
 have H := Lib.hid h
 have HX := Lib.hid hx
 clear h hx hcl
 go_enter Tryz.func49, Tryz.ntmps49
 go_wp2_with fail
 go_loopw [3, 4, 5] (fun o t i wr => ∃ k : Nat, k ≤ xs.length ∧ i = .int .i64 k ∧ t = .int .u64 (((0 : Nat) :: xs).getD k 0) ∧ wr.ownsRow w.heap.size 34 1 o k (cells64 ((deltas 0 xs).take k)) ∧ Below w.heap.size w wr)
  (fun _ _ i _ => xs.length - (intOf i).toNat)
 case atStart => exact ⟨0, by omega, rfl, rfl, World.ownsRow_nil _ _ _ _, Below.refl _ _⟩
 case round =>
  obtain ⟨k, hk, rfl, rfl, ho, hb⟩ := hrel
  have hBr := hb.size
  by_cases hlt : k < xs.length
  ·have hki : (k : Int) < (xs.length : Int) := by omega
   obtain ⟨n, hn⟩ : ∃ n, xs[k]? = some n := ⟨xs[k], List.getElem?_eq_getElem hlt⟩
   have hn2 := HX.out n (List.mem_of_getElem? hn)
   have hn3 : n ≤ 18446744073709551615 := by unfold M64 at hn2; omega
   have hs2 := state_lt HX.out k
   have hs3 := Lib.hid (state_next hn)
   obtain ⟨b, off, rfl, hbl, hc⟩ := H.out.get hb (cells64_get hn)
   have hd := deltas_get xs 0 k n hn
   have HD := Lib.hid (take_next hd)
   generalize ((0 : Nat) :: xs).getD k 0 = L at *
   have hL : L ≤ 18446744073709551615 := by unfold M64 at hs2; omega
   clear hn hd
   have hU := up_sgn L n hs2 hn2
   have hDn := up_sgn n L hn2 hs2
   obtain ⟨U, hUe⟩ : ∃ U, U = (n + (M64 - L)) % M64 := ⟨_, rfl⟩
   obtain ⟨D, hDe⟩ : ∃ D, D = (L + (M64 - n)) % M64 := ⟨_, rfl⟩
   rw [← hUe] at hU
   rw [← hDe] at hDn
   have hdel : deltaOf L n = zig (sgn U) := by rw [hUe]; rfl
   have hUM : U < M64 := by rw [hUe]; exact Nat.mod_lt _ (by decide)
   have hUD : 0 < U → U + D = M64 := by intro h0; rw [hUe] at h0; rw [hUe, hDe]; unfold M64 at *; omega
   have HDEL := Lib.hid hdel
   have HUE := Lib.hid hUe
   have HDE := Lib.hid hDe
   clear hdel hUe hDe
   have hU3 : U ≤ 18446744073709551615 := by unfold M64 at hUM; omega
   obtain ⟨Ui, hUi⟩ : ∃ Ui : Int, Ui = U := ⟨_, rfl⟩
   obtain ⟨Di, hDi⟩ : ∃ Di : Int, Di = D := ⟨_, rfl⟩
   rw [← hUi] at hU
   rw [← hDi] at hDn
   have HUI := Lib.hid hUi
   have HDI := Lib.hid hDi
   clear hUi hDi hU3
   go_wp2_with fail
   go_quiet (fail)
   have HUD := Lib.hid hUD
   have HUM := Lib.hid hUM
   have hD3 : D ≤ 18446744073709551615 := by rw [HDE.out]; have := Nat.mod_lt (L + (M64 - n)) (by decide : M64 > 0); unfold M64 at *; omega
   have HD3 := Lib.hid hD3
   clear hU hDn hUD hUM hs2 hn2 hD3
   by_cases hup : U < 9223372036854775808
   ·have hv : 2 * Ui = (deltaOf L n : Int) := by
     rw [HDEL.out, HUI.out]; unfold zig sgn; rw [if_pos hup, if_pos (by omega)]; omega
    have HV := Lib.hid hv
    have hup2 : Ui ≤ 9223372036854775807 := by rw [HUI.out]; omega
    have hup3 : 0 ≤ Ui := by rw [HUI.out]; omega
    clear hv hup
    have ho1 : (wr.drewN nq).ownsRow w.heap.size 34 1 u3 k (cells64 ((deltas 0 xs).take k)) := ho
    have HO1 := Lib.hid ho1
    clear ho1
    go_wp2_with (at_builtin; refine append_one (wr.drewN nq) (.int .u64 (2 * Ui)) rfl (.tmp 28) (.tmp 31) 46 rfl w.heap.size 34 _ _ Tryz.underlying46 Tryz.infoU64 rfl rfl _ _ _ rfl HO1.out rfl (by unfold maxLen; omega) (by omega) hBr ?_; intro v' w1 hown1 hb1 _; have hc2 := (hb1.cell (p := ⟨b, off + k, none⟩) hbl).trans hc)
    go_roundw
    case rel => exact ⟨k + 1, by omega, by go_num, by rw [hs3.out], by rw [HV.out, HD.out] at hown1; exact hown1, hb.trans ((⟨rfl, rfl, rfl, Nat.le_refl _, fun _ _ => rfl⟩ : Below w.heap.size wr (wr.drewN nq)).trans hb1)⟩
    case measure => simp [intOf]; omega
   ·have hup2 : 9223372036854775808 ≤ Ui := by rw [HUI.out]; omega
    have hup3 : Ui ≤ 18446744073709551615 := by rw [HUI.out]; have := HUM.out; unfold M64 at this; omega
    have hD0 : D = M64 - U ∧ 0 < U := by have h1 := HUD.out (by omega); unfold M64 at *; omega
    have hd2 : 1 ≤ Di ∧ Di ≤ 9223372036854775808 := by rw [HDI.out]; obtain ⟨h1, h2⟩ := hD0; have := HUM.out; unfold M64 at *; omega
    have hv : 2 * (Di - 1) + 1 = (deltaOf L n : Int) := by
     rw [HDEL.out, HDI.out]; unfold zig sgn; rw [if_neg hup]
     obtain ⟨h1, h2⟩ := hD0
     have := HUM.out
     rw [if_neg (by unfold M64 at this; omega)]
     unfold M64 at *; omega
    have HV := Lib.hid hv
    obtain ⟨hd3, hd4⟩ := hd2
    clear hv hup hD0
    have ho1 : (wr.drewN nq).ownsRow w.heap.size 34 1 u3 k (cells64 ((deltas 0 xs).take k)) := ho
    have HO1 := Lib.hid ho1
    clear ho1
    go_wp2_with (at_builtin; refine append_one (wr.drewN nq) (.int .u64 (2 * (Di - 1) + 1)) rfl (.tmp 33) (.tmp 38) 46 rfl w.heap.size 34 _ _ Tryz.underlying46 Tryz.infoU64 rfl rfl _ _ _ rfl HO1.out rfl (by unfold maxLen; omega) (by omega) hBr ?_; intro v' w1 hown1 hb1 _; have hc2 := (hb1.cell (p := ⟨b, off + k, none⟩) hbl).trans hc)
    go_roundw
    case rel => exact ⟨k + 1, by omega, by go_num, by rw [hs3.out], by rw [HV.out, HD.out] at hown1; exact hown1, hb.trans ((⟨rfl, rfl, rfl, Nat.le_refl _, fun _ _ => rfl⟩ : Below w.heap.size wr (wr.drewN nq)).trans hb1)⟩
    case measure => simp [intOf]; omega
  ·obtain rfl : k = xs.length := by omega
   rw [List.take_of_length_le (by rw [deltas_length]; exact Nat.le_refl _)] at ho
   go_wp2
   go_ret
   exact ⟨_, rfl, ho, hb⟩
theorem refDPrint (v : Value) (xs : List Nat) (w : World) (h : SeqAt w v (cells64 xs)) (hx : ∀ n ∈ xs, n < M64) (hl : xs.length ≤ 1099511627776) :
  Calls Tryz.prog 25 #[v] w fun e w' => e = .returned (.string (textB (encList (deltas 0 xs)))) ∧ Below w.heap.size w w' := by
 go_enter Tryz.func25, Tryz.ntmps25
 go_wp2_with fail
 refine (refDeltas v xs w h hx hl).mono ?_
 rintro e w1 ⟨v1, rfl, ho1, hb1⟩
 go_wp2_with fail
 refine (refPrintList v1 _ w1 (SeqAt.of_owns ho1) (deltas_lt xs 0) (by rw [deltas_length]; exact hl)).mono ?_
 rintro e w2 ⟨rfl, hb2⟩
 go_wp2
 go_ret
 exact ⟨rfl, then_ hb1 hb2⟩
set_option maxHeartbeats 1000000 in
set_option maxRecDepth 100000 in
theorem refCount (s : ByteArray) (w : World) (hs : s.size ≤ 1099511627776) :
  Calls Tryz.prog 51 #[.string s] w fun e w' => e = .returned (.agg (cells64 (cntL s.data.toList)).toArray) ∧ Below w.heap.size w w' := by
 obtain ⟨zs, hzs⟩ : ∃ zs : Array Value, zs = Array.replicate 256 (.int .u64 0) := ⟨_, rfl⟩
 have hz := zero64
 rw [← hzs] at hz
 have hzl : zs = (cells64 (cntL [])).toArray := by
  rw [hzs, cntL_nil]
  unfold cells64
  rw [List.map_replicate]
  exact (List.toArray_replicate 256 _).symm
 have hzn : zs.size = 256 := by rw [hzs, Array.size_replicate]
 have HZL := Lib.hid hzl
 have HZN := Lib.hid hzn
 clear hzs hzl hzn
 go_enter Tryz.func51, Tryz.ntmps51
 have l0 := (Lies.made w 80 zs).alloc (.cells zs 80)
 have l1 := Lies.made (w.alloc (.cells zs 80)) 80 zs
 have hb1 : Below w.heap.size w ((w.alloc (.cells zs 80)).alloc (.cells zs 80)) := ((Below.refl _ _).alloc (Nat.le_refl _) _).alloc (by simp) _
 have hgs : (w.alloc (.cells zs 80)).heap.size = w.heap.size + 1 := by simp
 rw [hgs] at l1
 have H0 := Lib.hid l0
 have H1 := Lib.hid l1
 have HB := Lib.hid hb1
 clear l0 l1 hb1
 go_wp2_with fail
 clear hz hgs
 generalize (w.alloc (.cells zs 80)).alloc (.cells zs 80) = w1 at *
 go_loopw [4] (fun c wr => ∃ i : Nat, i ≤ s.size ∧ c = .int .i64 i ∧ Lies wr w.heap.size 80 zs ∧ Lies wr (w.heap.size + 1) 80 (cells64 (cntL (s.data.toList.take i))).toArray ∧ Below w.heap.size w wr)
  (fun c _ => s.size - (intOf c).toNat)
 case atStart => exact ⟨0, by omega, rfl, H0.out, by rw [List.take_zero, ← HZL.out]; exact H1.out, HB.out⟩
 case round =>
  clear H0 H1 HB
  obtain ⟨i, hi, rfl, l0, l1, hb⟩ := hrel
  have L0 := Lib.hid l0
  have L1 := Lib.hid l1
  have HB := Lib.hid hb
  clear l0 l1 hb
  by_cases hlt : i < s.size
  ·have hii : (i : Int) < (s.size : Int) := by omega
   have hby := byte_of s i hlt
   have hst := cntL_take hby
   have hln := cntL_length (s.data.toList.take i)
   have hle := cntL_le (s.data.toList.take i)
   have hblt := (s[i]'hlt).toNat_lt
   have HST := Lib.hid hst
   generalize hc : cntL (s.data.toList.take i) = c at *
   have hcg : c[(s[i]'hlt).toNat]? = some (c.getD (s[i]'hlt).toNat 0) := by
    rw [List.getD_eq_getElem?_getD, List.getElem?_eq_getElem (by omega)]; rfl
   have hcn : c.getD (s[i]'hlt).toNat 0 ≤ 1099511627776 := by
    have := hle _ (List.mem_of_getElem? hcg)
    rw [List.length_take] at this
    have e : s.data.toList.length = s.size := by simp
    omega
   have hcell : wr.cell? ⟨w.heap.size + 1, (s[i]'hlt).toNat, none⟩ = some (.int .u64 ((c.getD (s[i]'hlt).toNat 0 : Nat) : Int)) := (L1.out.cell _).trans (by rw [List.getElem?_toArray]; unfold cells64; rw [List.getElem?_map, hcg]; rfl)
   have hfree := L1.out.free (s[i]'hlt).toNat
   have hput := L1.out.put (s[i]'hlt).toNat (.int .u64 ((c.getD (s[i]'hlt).toNat 0 + 1 : Nat) : Int))
   rw [c64_set] at hput
   have hput2 : Hid (Lies (wr.setCell ⟨w.heap.size + 1, (s[i]'hlt).toNat, none⟩ (.int .u64 ((c.getD (s[i]'hlt).toNat 0 + 1 : Nat) : Int))) (w.heap.size + 1) 80 (cells64 (cntL (s.data.toList.take (i + 1)))).toArray) := by
    show Lies _ _ _ _
    rw [HST.out]; exact hput
   have hfar := Lib.hid (L0.out.far (p := ⟨w.heap.size + 1, (s[i]'hlt).toNat, none⟩) (by show w.heap.size ≠ w.heap.size + 1; omega) (.int .u64 ((c.getD (s[i]'hlt).toNat 0 + 1 : Nat) : Int)))
   have hbn := Lib.hid (HB.out.setCell (p := ⟨w.heap.size + 1, (s[i]'hlt).toNat, none⟩) (by show w.heap.size ≤ w.heap.size + 1; omega) (.int .u64 ((c.getD (s[i]'hlt).toNat 0 + 1 : Nat) : Int)))
   clear hput hst hle hcg hby hc HST
   generalize c.getD (s[i]'hlt).toNat 0 = m at *
   have hbi : ((s[i]'hlt).toNat : Int) < 256 := by omega
   go_wp2_with fail
   go_roundw
   case rel => exact ⟨i + 1, by omega, by go_num, hfar.out, hput2.out, hbn.out⟩
   case measure => simp [intOf]; omega
  ·have hl : s.data.toList.length = s.size := by simp
   obtain rfl : i = s.size := by omega
   rw [List.take_of_length_le (by omega)] at L1
   obtain ⟨T, hT⟩ : ∃ T, T = cells64 (cntL s.data.toList) := ⟨_, rfl⟩
   have hTl : T.length = 256 := by rw [hT, c64_length, cntL_length]
   have hone : T.toArray.all (·.oneCell') = true := by rw [hT]; exact c64_one _
   rw [← hT] at L1
   have HT := Lib.hid hT
   have hr := Lib.hid (arr_range L1.out)
   have ht := Lib.hid (arr_there L0.out (n := T.toArray.size) (HZN.out.trans (by rw [List.size_toArray, hTl])))
   have hst := Lib.hid (arr_store L0.out (L := T) (HZN.out.trans hTl.symm))
   have hi1 : (Tryz.prog.info? 80).map (·.size) = some T.length := by rw [hTl]; exact info64
   have hi2 : (Tryz.prog.info? 80).map (·.size) = some T.toArray.size := by rw [List.size_toArray, hTl]; exact info64
   have HI1 := Lib.hid hi1
   have HI2 := Lib.hid hi2
   have HONE := Lib.hid hone
   have hbz := Lib.hid (below_cellsA (Nat.le_refl w.heap.size) T 0 wr HB.out)
   clear hT hone hi1 hi2
   go_wp2_with (first | refine wpList_load_mid rfl 80 _ rfl (w.heap.size + 1) 0 rfl T _ hr.out under64 rfl HI1.out ?_ | refine wpList_store_mid rfl 80 _ _ rfl w.heap.size 0 T.toArray rfl rfl ht.out HI2.out HONE.out ?_)
   refine bodyPost_ret (v := .agg T.toArray) (results_cell_arr Tryz.results51 _ _ w.heap.size T _ rfl (arr_range hst.out) under64 rfl HI1.out) rfl ⟨by rw [HT.out], hbz.out⟩
def joinT (x y : List (Nat × Nat)) : List (Nat × Nat) := (x ++ y).map fun q => (q.1, q.2 + 1)
def putT (T : Nat → List (Nat × Nat)) (num : Nat) (t : List (Nat × Nat)) (x : Nat) : List (Nat × Nat) := if x = num then t else T x
def trF (s : List N2) (num : Nat) (T : Nat → List (Nat × Nat)) : List (Nat × Nat) :=
 match s with
 | a :: b :: r => trF (insL (sumW a.1 b.1, num) r) (num + 1) (putT T num (joinT (T a.2) (T b.2)))
 | [a] => T a.2
 | [] => []
termination_by s.length
decreasing_by simp [insL_length]
theorem trF_step (a b : N2) (r : List N2) (num : Nat) (T : Nat → List (Nat × Nat)) : trF (a :: b :: r) num T = trF (insL (sumW a.1 b.1, num) r) (num + 1) (putT T num (joinT (T a.2) (T b.2))) := by
 conv => lhs; unfold trF
theorem trF_one (a : N2) (num : Nat) (T : Nat → List (Nat × Nat)) : trF [a] num T = T a.2 := by unfold trF; rfl
def deeper (d : Nat) (t : List (Nat × Nat)) : List (Nat × Nat) := t.map fun q => (q.1, q.2 + d)
theorem deeper_join (d : Nat) (x y : List (Nat × Nat)) : deeper d (joinT x y) = deeper (d + 1) x ++ deeper (d + 1) y := by
 unfold deeper joinT
 rw [List.map_map, List.map_append]
 congr 1
 all_goals
  refine List.map_congr_left fun q _ => ?_
  show (q.1, q.2 + 1 + d) = (q.1, q.2 + (d + 1))
  rw [show q.2 + 1 + d = q.2 + (d + 1) by omega]
theorem flat_congr {f g : N2 → List (Nat × Nat)} : ∀ {s : List N2}, (∀ p ∈ s, f p = g p) → s.flatMap f = s.flatMap g
 | [], _ => rfl
 | p :: s, h => by rw [List.flatMap_cons, List.flatMap_cons, h p (by simp), flat_congr (s := s) (fun q hq => h q (by simp [hq]))]
theorem trF_is : ∀ (n : Nat) (s : List N2) (num : Nat) (T : Nat → List (Nat × Nat)), s.length = n + 1 → NumOk s num → (trF s num T).Perm (s.flatMap fun p => deeper (dpF s num p.2) (T p.2))
 | 0, s, num, T, hl, hn => by
  match s, hl with
  | [a], _ =>
   rw [trF_one, List.flatMap_cons, List.flatMap_nil, List.append_nil, dpF_end _ _ _ (by simp)]
   have : deeper 0 (T a.2) = T a.2 := by unfold deeper; simp
   rw [this]
 | n + 1, s, num, T, hl, hn => by
  match s, hl with
  | a :: b :: r, hl =>
   have hnd := hn.2
   simp only [List.map_cons, List.nodup_cons, List.mem_cons, not_or] at hnd
   have hl' : (insL (sumW a.1 b.1, num) r).length = n + 1 := by rw [insL_length]; simp at hl; omega
   have ih := trF_is n (insL (sumW a.1 b.1, num) r) (num + 1) (putT T num (joinT (T a.2) (T b.2))) hl' (numOk_step hn)
   rw [trF_step]
   refine ih.trans ((List.Perm.flatMap_right _ (insL_perm _ _)).trans ?_)
   rw [List.flatMap_cons, List.flatMap_cons, List.flatMap_cons]
   have e1 : putT T num (joinT (T a.2) (T b.2)) num = joinT (T a.2) (T b.2) := by unfold putT; rw [if_pos rfl]
   have ea : dpF (a :: b :: r) num a.2 = dpF (insL (sumW a.1 b.1, num) r) (num + 1) num + 1 := by rw [dpF_step, if_pos (.inl rfl)]
   have eb : dpF (a :: b :: r) num b.2 = dpF (insL (sumW a.1 b.1, num) r) (num + 1) num + 1 := by rw [dpF_step, if_pos (.inr rfl)]
   have er : (r.flatMap fun p => deeper (dpF (insL (sumW a.1 b.1, num) r) (num + 1) p.2) (putT T num (joinT (T a.2) (T b.2)) p.2)) = r.flatMap fun p => deeper (dpF (a :: b :: r) num p.2) (T p.2) := flat_congr fun p hp => by
    have hpr : p.2 ∈ r.map (·.2) := List.mem_map.2 ⟨p, hp, rfl⟩
    have hlt := hn.1 p (by simp [hp])
    have h1 : p.2 ≠ a.2 := fun e => hnd.1.2 (by rw [← e]; exact hpr)
    have h2 : p.2 ≠ b.2 := fun e => hnd.2.1 (by rw [← e]; exact hpr)
    rw [dpF_step, if_neg (by rintro (e | e) <;> contradiction)]
    unfold putT
    rw [if_neg (by omega)]
   rw [er, ea, eb]
   show (deeper _ (putT T num _ num) ++ _).Perm _
   rw [e1, deeper_join, List.append_assoc]
theorem lv_step {ws : List Nat} {k : Nat} (hk : k < ws.length) : lvs (ws.take (k + 1)) = lvF (lvs (ws.take k)) (ws.getD k 0) := by
 have hg : ws[k]? = some (ws.getD k 0) := by rw [List.getD_eq_getElem?_getD, List.getElem?_eq_getElem hk]; rfl
 exact lvs_take hg
end Go.Proofs.YtmadgdmiipgjoaaGreat
