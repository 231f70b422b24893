/-
  A thread that goes round (layer 16): how it stands behind any number of plain instructions.
-/
import Derived.Test.YtiegmpjoiekekaaThz
namespace Go.Proofs.Ytiegmpjoiekekaa
open Go.RowKit
set_option linter.unusedVariables false
set_option linter.unusedSimpArgs false
def addI : In := ⟨3, 1, 1, 2, 0, 0⟩
def jmpI : In := ⟨15, 0, 0, 0, 0, 0⟩
def spL (n : Nat) (seen : Bool) : List In := List.replicate n addI ++ (if seen = true then [] else [jmpI])
def spX : Th := ⟨0, 0, 0, 0, 0, fun j => if j = 2 then 1 else 0, []⟩
def stG (p r : Nat) : Th := ⟨p, 0, 0, 0, 0, fun j => if j = 1 then r else if j = 2 then 1 else 0, []⟩
theorem spX_st : spX = stG 0 0 := by
  unfold spX stG
  congr 1
  funext j
  by_cases h : j = 1
  · subst h; rfl
  · rw [if_neg h]
theorem addI_right : rightB addI = true := by decide
theorem jmpI_right : rightB jmpI = true := by decide
theorem spL_len (n : Nat) (b : Bool) : (spL n b).length = n + (if b = true then 0 else 1) := by
  unfold spL; cases b <;> simp
theorem spL_mem {n : Nat} {b : Bool} {i : In} (h : i ∈ spL n b) : i = addI ∨ i = jmpI := by
  unfold spL at h
  rw [List.mem_append] at h
  rcases h with h | h
  · exact .inl (List.eq_of_mem_replicate h)
  · cases b
    · simp at h; exact .inr h
    · simp at h
theorem spL_code {n : Nat} {b : Bool} (h : n ≤ 255) : codeB (spL n b) = true := by
  have hl := spL_len n b
  refine codeB_ok (by rw [hl]; split <;> omega) (fun y hy => ?_)
  rcases spL_mem hy with rfl | rfl
  · unfold cdX; rw [addI_right]; rfl
  · unfold cdX; rw [jmpI_right]
    rw [show decide ((spL n b).length < jmpI.k) = false from decide_eq_false (by show ¬ _ < 0; omega), Bool.and_false]; rfl
theorem spL_ok {n : Nat} {b : Bool} : ∀ i ∈ spL n b, inOk i := by
  intro i hi
  rcases spL_mem hi with rfl | rfl
  · unfold inOk addI; simp [i64]
  · unfold inOk jmpI; simp [i64]
theorem spX_ok : thOk spX := by
  refine ⟨?_, ?_, ?_, ?_, ?_, ?_, ?_⟩ <;> simp [spX, i64]
  intro i
  split <;> omega
theorem spX_right {n : Nat} {b : Bool} (h : n ≤ 255) : thB (spL n b) spX = true := by
  unfold thB inTh phB
  rw [spL_code h, decide_eq_true (show (0:Int) ≤ spX.at_ ∧ spX.at_ ≤ ((spL n b).length : Int) ∧ 0 ≤ spX.st ∧ spX.st ≤ 2 from ⟨by show (0:Int) ≤ 0; omega, by show (0:Int) ≤ _; omega, by show (0:Int) ≤ 0; omega, by show (0:Int) ≤ 2; omega⟩)]
  rfl
theorem spL_add {n p r : Nat} {b : Bool} (h : p < n) : atT (spL n b) (stG p r) = addI := by
  refine atT_get (an := p) rfl ?_
  unfold spL
  rw [List.getElem?_append_left (by simpa using h), List.getElem?_replicate, if_pos h]
theorem spL_jmp {n r : Nat} : atT (spL n false) (stG n r) = jmpI := by
  refine atT_get (an := n) rfl ?_
  unfold spL
  rw [List.getElem?_append_right (by simp)]
  simp
theorem step_add {p r : Nat} (h : r < 18446744073709551615) : stepT addI (stG p r) = stG (p + 1) (r + 1) := by
  have hd : doV 3 ((stG p r).r 1 : Int) ((stG p r).r 2 : Int) = ((r + 1 : Nat) : Int) := by
    show doV 3 ((r : Nat) : Int) ((1 : Nat) : Int) = _
    unfold doV
    simp [IntKind.wrap_u64]
    omega
  unfold stepT
  show (setR (goOn (stG p r)) 1 (doV 3 ((stG p r).r 1 : Int) ((stG p r).r 2 : Int)).toNat) = _
  rw [hd]
  unfold setR goOn stG
  simp only [Int.toNat_natCast]
  congr 1
  funext j
  by_cases h1 : j = 1
  · simp [h1]
  · simp [h1]
theorem step_jmp {p r : Nat} : stepT jmpI (stG p r) = stG 0 r := rfl
theorem go_add {n r p : Nat} {b : Bool} (hr : r + n ≤ 18446744073709551615) : ∀ (m k : Nat), p + m ≤ n → goT (spL n b) (m + k) (stG p r) = goT (spL n b) k (stG (p + m) (r + m)) := by
  intro m
  induction m with
  | zero => intro k _; rw [Nat.zero_add]; rfl
  | succ m ih =>
    intro k h
    rw [show m + 1 + k = m + (k + 1) by omega, ih (k + 1) (by omega)]
    have hp : plT (spL n b) (stG (p + m) (r + m)) = true := by
      refine plT_in (spL_add (by omega)) ?_ (by decide) (by decide)
      show ((p + m : Nat) : Int) < _
      rw [spL_len]
      omega
    rw [goT_step hp, spL_add (by omega), step_add (by omega)]
    rfl
theorem go_round {n r k : Nat} (hr : r + n ≤ 18446744073709551615) : goT (spL n false) (n + 1 + k) (stG 0 r) = goT (spL n false) k (stG 0 (r + n)) := by
  rw [show n + 1 + k = n + (k + 1) by omega, go_add (p := 0) hr n (k + 1) (by omega), Nat.zero_add]
  have hp : plT (spL n false) (stG n (r + n)) = true := by
    refine plT_in spL_jmp ?_ (by decide) (by decide)
    show ((n : Nat) : Int) < _
    rw [spL_len]
    simp
    omega
  rw [goT_step hp, spL_jmp, step_jmp]
theorem go_rounds {n : Nat} (hn : n ≤ 255) : ∀ (q r k : Nat), q ≤ 256 → r + (q + 1) * n ≤ 18446744073709551615 → goT (spL n false) (q * (n + 1) + k) (stG 0 r) = goT (spL n false) k (stG 0 (r + q * n)) := by
  intro q
  induction q with
  | zero => intro r k _ _; simp
  | succ q ih =>
    intro r k hq hr
    have e1 : (q + 1 + 1) * n = (q + 1) * n + n := Nat.succ_mul _ _
    have e2 : (q + 1) * n = q * n + n := Nat.succ_mul _ _
    rw [show (q + 1) * (n + 1) + k = n + 1 + (q * (n + 1) + k) by rw [Nat.succ_mul]; omega, go_round (by omega), ih (r + n) k (by omega) (by omega), e2]
    congr 2
    omega
theorem spin_seen {n : Nat} (hn : n ≤ 255) : nxZ (spL n true) spX = (stG n n, noneA 8, 0) := by
  have hr := spX_right (n := n) (b := true) hn
  have hg : nxT (spL n true) spX = stG n n := by
    rw [nxT_run rfl rfl, spX_st, show 256 = n + (256 - n) by omega, go_add (p := 0) (by omega) n _ (by omega), Nat.zero_add]
    refine goT_stop (plT_end ?_) _
    show ((n : Nat) : Int) = _
    rw [spL_len]; simp
  unfold nxZ
  rw [if_pos hr, hg, reqA_end rfl (by show ((n : Nat) : Int) = _; rw [spL_len]; simp)]
theorem spin_notq {n q m : Nat} (hn : n ≤ 255) (hq : q ≤ 256) (hm : m < n + 1) (hd : 256 = q * (n + 1) + m) (hb : (q + 1) * n ≤ 257 * 255) (hb2 : q * n ≤ 256 * 255) : nxZ (spL n false) spX = (stG m (q * n + m), noneA 9, 0) := by
  have hr := spX_right (n := n) (b := false) hn
  have hg : nxT (spL n false) spX = stG m (q * n + m) := by
    rw [nxT_run rfl rfl, spX_st]
    have h1 := go_rounds hn q 0 m hq (by omega)
    rw [← hd, Nat.zero_add] at h1
    rw [h1]
    have h2 := go_add (n := n) (p := 0) (b := false) (r := q * n) (by omega) m 0 (by omega)
    rw [Nat.add_zero, Nat.zero_add] at h2
    rw [h2]
    rfl
  unfold nxZ
  rw [if_pos hr, hg]
  have hne : (stG m (q * n + m)).at_ ≠ ((spL n false).length : Int) := by
    show ((m : Nat) : Int) ≠ _
    rw [spL_len]; simp; omega
  by_cases hx : m < n
  · rw [reqA_spin rfl rfl hne (spL_add hx) (by decide) (by decide)]
  · obtain rfl : m = n := by omega
    rw [reqA_spin rfl rfl hne spL_jmp (by decide) (by decide)]
theorem spin_not {n : Nat} (hn : n ≤ 255) : nxZ (spL n false) spX = (stG (256 % (n + 1)) (256 / (n + 1) * n + 256 % (n + 1)), noneA 9, 0) := by
  have hq : 256 / (n + 1) ≤ 256 := Nat.div_le_self _ _
  exact spin_notq hn hq (Nat.mod_lt _ (by omega)) (by rw [Nat.mul_comm]; exact (Nat.div_add_mod 256 (n + 1)).symm) (Nat.mul_le_mul (by omega) hn) (Nat.mul_le_mul hq hn)
end Go.Proofs.Ytiegmpjoiekekaa
