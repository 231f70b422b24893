/-
  Lists of numbers printed in varint's form.
-/
import Derived.Test.YtdlbgmkigfbfbaaVarlist
import Derived.Test.YtdlbgmkigfbfbaaRefprint
namespace Go.Proofs.Ytdlbgmkigfbfbaa
open Go.RowKit
set_option linter.unusedVariables false
/-- What a slice leads to, in a later world. -/
theorem SeqAt.get {w w' : World} {A : Option Addr} {c n : Nat} {xs : List Value} (h : SeqAt w (.slice A n c) xs) (hb : Below w.heap.size w w') {k : Nat} {u : Value} (hk : xs[k]? = some u) :
    ∃ b off, A = some ⟨b, off, none⟩ ∧ b < w.heap.size ∧ w'.cell? ⟨b, off + k, none⟩ = some u := by
  obtain ⟨A', c', e, _, _, h3⟩ := h
  injection e with e1 e2 e3
  subst e1
  obtain ⟨b, off, e, hc⟩ := h3 k u hk
  have hl := World.block_lt_of_cell? w _ hc
  exact ⟨b, off, e, hl, (hb.cell (p := ⟨b, off + k, none⟩) hl).trans hc⟩
theorem cells64_get {l : List Nat} {k n : Nat} (h : l[k]? = some n) : (cells64 l)[k]? = some (.int .u64 (n : Int)) := by simp [cells64, h]
/-- A list's bytes. -/
def encs (l : List Nat) : List UInt8 := l.flatMap enc
def encList (l : List Nat) : List UInt8 := enc l.length ++ encs l
theorem encs_next {l : List Nat} {k n : Nat} (h : l[k]? = some n) : encs (l.take k) ++ enc n = encs (l.take (k + 1)) := by
  rw [List.take_add_one, h]; simp [encs]
theorem encs_length (l : List Nat) : (encs l).length ≤ 10 * l.length := by
  induction l with
  | nil => simp [encs]
  | cons n l ih => simp only [encs, List.flatMap_cons, List.length_append, List.length_cons] at *; have := (enc_length n).2; omega
theorem encs_cons (n : Nat) (l : List Nat) : encs (n :: l) = enc n ++ encs l := rfl
set_option maxHeartbeats 1000000 in
theorem varintPrintList (v : Value) (xs : List Nat) (w : World) (h : SeqAt w v (cells64 xs)) (hx : ∀ n ∈ xs, n < M64) (hl : xs.length ≤ 1099511627776) :
    Calls Try.prog 23 #[v] w fun e w' => e = .returned (.string (textB (encList xs))) ∧ Below w.heap.size w w' := by
  have hh := h
  obtain ⟨A, c, rfl, _, hc2, _⟩ := hh
  have hcl : (cells64 xs).length = xs.length := by simp [cells64]
  rw [hcl] at *
  unfold maxLen at hc2
  have H := Lib.hid h
  have HX := Lib.hid hx
  clear h hx hcl
  go_enter Try.func23, Try.ntmps23
  go_wp2_with fail
  refine (varintGrow (.slice none 0 0) [] xs.length w w.heap.size (Nat.le_refl _) (World.ownsRow_nil _ _ _ _) (by simp) (by unfold M64; omega)).mono ?_
  rintro e w1 ⟨v1, rfl, ho1, hb1⟩
  rw [List.nil_append] at ho1
  have hel := enc_length xs.length
  go_wp2_with fail
  go_loopw [3, 12] (fun t i wr => ∃ k : Nat, k ≤ xs.length ∧ i = .int .i64 k ∧ wr.ownsRow w.heap.size 5 1 t (enc xs.length ++ encs (xs.take k)).length (cellsB (enc xs.length ++ encs (xs.take k))) ∧ Below w.heap.size w wr)
    (fun _ i _ => xs.length - (intOf i).toNat)
  case atStart => exact ⟨0, by omega, rfl, by simpa [encs] using ho1, hb1⟩
  case round =>
    clear ho1 hb1
    obtain ⟨k, hk, rfl, ho, hb⟩ := hrel
    by_cases hlt : k < xs.length
    · have hki : (k : Int) < (xs.length : Int) := by omega
      obtain ⟨n, hn⟩ : ∃ n, xs[k]? = some n := ⟨xs[k], List.getElem?_eq_getElem hlt⟩
      have hn2 := HX.out n (List.mem_of_getElem? hn)
      obtain ⟨b, off, rfl, hbl, hc⟩ := H.out.get hb (cells64_get hn)
      have HN := Lib.hid (encs_next hn)
      have hle := encs_length (xs.take k)
      rw [List.length_take, Nat.min_eq_left hk] at hle
      clear hn
      go_wp2_with fail
      refine (varintGrow _ _ n wr w.heap.size hb.size ho (by rw [List.length_append]; omega) hn2).mono ?_
      rintro e w2 ⟨v2, rfl, ho2, hb2⟩
      rw [List.append_assoc, HN.out] at ho2
      go_wp2
      go_roundw
      case rel => exact ⟨k + 1, by omega, by go_num, ho2, hb.trans hb2⟩
      case measure => simp [intOf]; omega
    · obtain rfl : k = xs.length := by omega
      rw [List.take_length] at ho
      have hcv := convert_owned wr _ _ _ _ rfl ho
      clear ho
      go_wp2
      go_ret
      exact ⟨rfl, hb⟩
theorem text_append (a b : List UInt8) : textB a ++ textB b = textB (a ++ b) := by apply eq_of_data; simp [textB]
set_option maxHeartbeats 1000000 in
theorem refPrintList (v : Value) (xs : List Nat) (w : World) (h : SeqAt w v (cells64 xs)) (hx : ∀ n ∈ xs, n < M64) (hl : xs.length ≤ 1099511627776) :
    Calls Try.prog 25 #[v] w fun e w' => e = .returned (.string (textB (encList xs))) ∧ Below w.heap.size w w' := by
  have hh := h
  obtain ⟨A, c, rfl, _, hc2, _⟩ := hh
  have hcl : (cells64 xs).length = xs.length := by simp [cells64]
  rw [hcl] at *
  unfold maxLen at hc2
  have H := Lib.hid h
  have HX := Lib.hid hx
  clear h hx hcl
  go_enter Try.func25, Try.ntmps25
  go_wp2_with fail
  refine (refPrint xs.length w (by unfold M64; omega)).mono ?_
  rintro e w1 ⟨rfl, hb1⟩
  have hel := enc_length xs.length
  go_wp2_with fail
  go_loopw [3, 4] (fun t i wr => ∃ k : Nat, k ≤ xs.length ∧ i = .int .i64 k ∧ t = .string (textB (enc xs.length ++ encs (xs.take k))) ∧ Below w.heap.size w wr)
    (fun _ i _ => xs.length - (intOf i).toNat)
  case atStart => exact ⟨0, by omega, rfl, by simp [encs], hb1⟩
  case round =>
    clear hb1
    obtain ⟨k, hk, rfl, rfl, hb⟩ := hrel
    by_cases hlt : k < xs.length
    · have hki : (k : Int) < (xs.length : Int) := by omega
      obtain ⟨n, hn⟩ : ∃ n, xs[k]? = some n := ⟨xs[k], List.getElem?_eq_getElem hlt⟩
      have hn2 := HX.out n (List.mem_of_getElem? hn)
      obtain ⟨b, off, rfl, hbl, hc⟩ := H.out.get hb (cells64_get hn)
      have HN := Lib.hid (encs_next hn)
      have hle := encs_length (xs.take k)
      rw [List.length_take, Nat.min_eq_left hk] at hle
      have hnl := enc_length n
      have hadd : ∀ W : World, (Op.stringOp .add (textB (enc xs.length ++ encs (xs.take k))) (textB (enc n))).run Try.prog W = .ok (.string (textB (enc xs.length ++ encs (xs.take (k + 1))))) W := fun W => by
        rw [run_string_add_sum W _ _ (by rw [textB_size, textB_size, List.length_append]; omega), text_append, List.append_assoc, HN.out]
      clear hn
      go_wp2_with fail
      refine (refPrint n wr hn2).mono ?_
      rintro e w2 ⟨rfl, hb2⟩
      go_wp2
      go_roundw
      case rel => exact ⟨k + 1, by omega, by go_num, rfl, then_ hb hb2⟩
      case measure => simp [intOf]; omega
    · obtain rfl : k = xs.length := by omega
      rw [List.take_length]
      go_wp2
      go_ret
      exact ⟨rfl, hb⟩
end Go.Proofs.Ytdlbgmkigfbfbaa
