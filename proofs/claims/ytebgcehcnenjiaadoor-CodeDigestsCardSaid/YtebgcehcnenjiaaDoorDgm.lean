/-
  Two texts of one length that differ in one byte have two sums.
-/
import Derived.Test.YtebgcehcnenjiaaDoorDig
namespace Go.Proofs.YtebgcehcnenjiaaDoor
open Go.RowKit
set_option linter.unusedVariables false
set_option linter.unusedSimpArgs false
theorem half_zero {x : Nat} (h : half x = 0) (hx : x < 4294967296) : x = 0 := by
  unfold half at h
  split at h
  · rename_i ho
    exfalso
    have h2 : x / 2 = 3988292384 := by
      have := congrArg (fun y => y ^^^ 3988292384) h
      simp only [Nat.zero_xor] at this
      rw [Nat.xor_assoc, Nat.xor_self, Nat.xor_zero] at this
      exact this
    omega
  · omega
theorem halves_zero : ∀ {k x : Nat}, halves k x = 0 → x < 4294967296 → x = 0
  | 0, x, h, _ => h
  | k + 1, x, h, hx => halves_zero (k := k) (half_zero h (halves_lt k x hx)) hx
theorem xor_zero_eq {a b : Nat} (h : a ^^^ b = 0) : a = b := by
  have := congrArg (fun y => y ^^^ b) h
  simp only [Nat.zero_xor] at this
  rw [Nat.xor_assoc, Nat.xor_self, Nat.xor_zero] at this
  exact this
theorem halves_inj {k a b : Nat} (ha : a < 4294967296) (hb : b < 4294967296) (h : halves k a = halves k b) : a = b := by
  refine xor_zero_eq (halves_zero (k := k) ?_ (Nat.xor_lt_two_pow (n := 32) ha hb))
  rw [halves_xor, h, Nat.xor_self]
theorem byte_lt (r : Nat) (b : UInt8) (hr : r < 4294967296) : r ^^^ b.toNat < 4294967296 := Nat.xor_lt_two_pow (n := 32) hr (by have := b.toNat_lt; show _ < 4294967296; omega)
theorem xor_cancel {a b c : Nat} (h : a ^^^ c = b ^^^ c) : a = b := by
  have := congrArg (fun y => y ^^^ c) h
  simp only [Nat.xor_assoc, Nat.xor_self, Nat.xor_zero] at this
  exact this
theorem run_inj : ∀ (l : List UInt8) {r q : Nat}, r < 4294967296 → q < 4294967296 → runT entN r l = runT entN q l → r = q
  | [], r, q, _, _, h => h
  | b :: l, r, q, hr, hq, h => by
    have h2 : stepT entN r b = stepT entN q b := run_inj l (stepT_lt isT_entN r b hr) (stepT_lt isT_entN q b hq) h
    rw [step_entry, step_entry] at h2
    exact xor_cancel (halves_inj (byte_lt r b hr) (byte_lt q b hq) h2)
theorem run_append (l m : List UInt8) (r : Nat) : runT entN r (l ++ m) = runT entN (runT entN r l) m := by unfold runT; rw [List.foldl_append]
/-- One byte turned. -/
theorem more_one {a b : List UInt8} {x y : UInt8} (h : moreT entN 0 (a ++ (x :: b)) = moreT entN 0 (a ++ (y :: b))) : x = y := by
  unfold moreT at h
  have h1 : runT entN (4294967295 ^^^ 0) (a ++ (x :: b)) = runT entN (4294967295 ^^^ 0) (a ++ (y :: b)) := by
    have := congrArg (fun z => 4294967295 ^^^ z) h
    simp only [← Nat.xor_assoc, Nat.xor_self, Nat.zero_xor] at this
    exact this
  rw [run_append, run_append] at h1
  have hr : runT entN (4294967295 ^^^ 0) a < 4294967296 := runT_lt isT_entN a _ (by decide)
  generalize runT entN (4294967295 ^^^ 0) a = r at *
  have h2 : stepT entN r x = stepT entN r y := run_inj b (stepT_lt isT_entN r x hr) (stepT_lt isT_entN r y hr) h1
  rw [step_entry, step_entry] at h2
  have h3 := halves_inj (byte_lt r x hr) (byte_lt r y hr) h2
  rw [Nat.xor_comm r, Nat.xor_comm r] at h3
  exact UInt8.toNat_inj.1 (xor_cancel h3)
/-- A program of which one instruction's number is another one. -/
def turn (p : Pg) (i k : Nat) : Pg := match p.ts with
  | [] => p
  | l :: ts => match l[i]? with
    | none => p
    | some x => ⟨p.rs, l.set i { x with k := k } :: ts⟩
theorem enc_small {k : Nat} (h : k < 128) : enc k = [UInt8.ofNat k] := by
  unfold enc
  rw [leb, if_pos h]
theorem turn_digest {p : Pg} {l : List In} {ts : List (List In)} {i k : Nat} {x : In} (hp : p.ts = l :: ts) (hx : l[i]? = some x) (hop : x.op = 1) (hxk : x.k < 64) (hk : k < 64) (he : encB p = true) (h : dgN p = dgN (turn p i k)) : x.k = k := by
  obtain ⟨rs, tt⟩ := p
  simp only at hp
  subst hp
  have ht : turn ⟨rs, l :: ts⟩ i k = ⟨rs, l.set i { x with k := k } :: ts⟩ := by
    unfold turn
    simp only [hx]
  rw [ht] at h
  obtain ⟨h1, h2, h3, h4⟩ := enc_parts.1 he
  obtain ⟨hl, hxe⟩ := List.getElem?_eq_some_iff.1 hx
  have hrx : rightB { x with k := k } = true := by
    have := (h4 l (by simp)).2 x (List.mem_of_getElem? hx)
    unfold rightB kB at this ⊢
    simp only [Bool.and_eq_true, decide_eq_true_eq] at this ⊢
    obtain ⟨q0, q1, q2, q3, q4, _⟩ := this
    refine ⟨q0, q1, q2, q3, q4, ?_⟩
    rw [hop]
    show k ≤ 18446744073709551615
    omega
  have he2 : encB ⟨rs, l.set i { x with k := k } :: ts⟩ = true := by
    refine enc_parts.2 ⟨h1, h2, h3, fun m hm => ?_⟩
    rcases List.mem_cons.1 hm with rfl | hm
    · refine ⟨by rw [List.length_set]; exact (h4 l (by simp)).1, fun y hy => ?_⟩
      rcases List.mem_or_eq_of_mem_set hy with hy | hy
      · exact (h4 l (by simp)).2 y hy
      · subst hy; exact hrx
    · exact h4 m (by simp [hm])
  unfold dgN prE at h
  rw [he, he2, if_pos rfl, if_pos rfl] at h
  have hsp : l = l.take i ++ x :: l.drop (i + 1) := by
    rw [← hxe]
    exact (List.take_append_drop i l).symm.trans (by rw [List.drop_eq_getElem_cons hl])
  have hsq : l.set i { x with k := k } = l.take i ++ { x with k := k } :: l.drop (i + 1) := by
    rw [List.set_eq_take_append_cons_drop, if_pos hl]
  have hform : ∀ (y : In) (hy : y.k < 64), pgE ⟨rs, (l.take i ++ y :: l.drop (i + 1)) :: ts⟩ =
      ([bI rs.length] ++ rs.flatMap riE ++ [bI ((l.take i ++ y :: l.drop (i + 1)) :: ts).length] ++ (enc (l.take i ++ y :: l.drop (i + 1)).length ++ (l.take i).flatMap inE ++ [bI y.op, bI y.a, bI y.b, bI y.c, bI y.d])) ++ (UInt8.ofNat y.k :: ((l.drop (i + 1)).flatMap inE ++ ts.flatMap thE)) := by
    intro y hy
    unfold pgE
    simp only [List.flatMap_cons]
    unfold thE
    simp only [List.flatMap_append, List.flatMap_cons]
    unfold inE
    rw [enc_small (k := y.k) (by omega)]
    simp [List.append_assoc]
  have h5 : moreT entN 0 (pgE ⟨rs, (l.take i ++ x :: l.drop (i + 1)) :: ts⟩) = moreT entN 0 (pgE ⟨rs, (l.take i ++ { x with k := k } :: l.drop (i + 1)) :: ts⟩) := by
    rw [← hsp, ← hsq]
    exact h
  rw [hform x hxk, hform { x with k := k } hk] at h5
  have hlen : (l.take i ++ x :: l.drop (i + 1)).length = (l.take i ++ { x with k := k } :: l.drop (i + 1)).length := by simp
  rw [hlen] at h5
  have h6 := more_one h5
  have h7 := congrArg UInt8.toNat h6
  rw [UInt8.toNat_ofNat', UInt8.toNat_ofNat'] at h7
  have h8 : x.k % 256 = k % 256 := h7
  omega
end Go.Proofs.YtebgcehcnenjiaaDoor
