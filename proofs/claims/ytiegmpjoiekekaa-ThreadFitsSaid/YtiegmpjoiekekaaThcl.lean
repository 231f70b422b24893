/-
  A copy of a list of numbers (layer 16): slices.Clone.
-/
import Derived.Test.YtiegmpjoiekekaaTh
import Derived.Lib.SliceRun
namespace Go.Proofs.Ytiegmpjoiekekaa
open Go.RowKit
set_option linter.unusedVariables false
set_option linter.unusedSimpArgs false
theorem Try.info64 : (Try.prog.info? 23).map (fun i => (i.zero, i.size, i.bytes)) = some (some (.int .u64 0), 1, 8) := by kernel_rfl
theorem cells64_one (l : List Nat) : ∀ u ∈ cells64 l, u.oneCell' = true := fun u hu => by
  unfold cells64 at hu
  obtain ⟨x, _, rfl⟩ := List.mem_map.1 hu
  rfl
set_option maxHeartbeats 2000000 in
set_option maxRecDepth 100000 in
theorem clone16 (l : List Nat) (A : Option Addr) (c : Nat) (w : World) (h : SeqS w 1 (.slice A l.length c) l.length (cells64 l)) (hl : l.length ≤ 1000000) :
    Calls Try.prog 23 #[.slice A l.length c] w fun e w' => ∃ v, e = .returned v ∧ w'.ownsRow w.heap.size 23 1 v l.length (cells64 l) ∧ Below w.heap.size w w' := by
  have hf := h
  obtain ⟨h1, A', c', e1, hlc, hcm, h0, hcell⟩ := hf
  simp only [Value.slice.injEq, true_and] at e1
  obtain ⟨rfl, rfl⟩ := e1
  have HLEN := Lib.hid hl
  have hlen2 : (cells64 l).length = l.length := by simp [cells64]
  cases A with
  | none =>
    have hn := h0 rfl
    have hl0 : l = [] := by
      cases l with
      | nil => rfl
      | cons a t => simp only [List.length_cons] at hlc; omega
    subst hl0
    have HEQ : ∀ q : World, (binOp .eql 25 (.slice none ([] : List Nat).length c) (.slice none 0 0)).run Try.prog q = .ok (.bool true) q := fun q => Lib.run_eql_slice_nil q _ _ none _ _ _ _ Try.underlying25
    simp only [List.length_nil] at HEQ
    clear h0 hn hcell h1 h
    go_enter Try.func23, Try.ntmps23
    go_wp2
    go_ret
    exact ⟨_, rfl, World.ownsRow_nil _ _ _ _, Below.refl _ _⟩
  | some p =>
    obtain ⟨b, o, f⟩ := p
    have HSQ := Lib.hid (SeqS.later h ((Below.refl w.heap.size w).alloc (Nat.le_refl _) (.cells #[] 23)))
    have HE := Lib.hid (owned_empty (w := w) (B := w.heap.size) 23 1 (Nat.le_refl _))
    have HBA := Lib.hid ((Below.refl w.heap.size w).alloc (Nat.le_refl _) (.cells #[] 23))
    have HEQ : ∀ q : World, (binOp .eql 25 (.slice (some ⟨b, o, f⟩) l.length c) (.slice none 0 0)).run Try.prog q = .ok (.bool false) q := fun q => Lib.run_eql_slice_nil q _ _ (some ⟨b, o, f⟩) _ _ _ _ Try.underlying25
    clear h0 hcell h1 h hlen2 hl
    go_enter Try.func23, Try.ntmps23
    go_wp2_with (at_builtin; refine append_argS (w.alloc (.cells #[] 23)) 1 rfl (.tmp 5) (.tmp 6) 25 rfl w.heap.size 23 (.int .u64 0) 8 Try.underlying25 Try.info64 rfl (by decide) _ 0 [] rfl HE.out (some ⟨b, o, f⟩) l.length c rfl (cells64 l) HSQ.out (cells64_one _) (by have := HLEN.out; unfold maxLen; omega) (by have := HLEN.out; omega) (by simp) ?_)
    intro v' w3 ho3 hb3 hg3
    have HO := Lib.hid ho3
    have HB := Lib.hid (HBA.out.trans hb3)
    clear ho3 hb3 hg3 HSQ HE HBA
    go_wp2
    go_ret
    exact ⟨v', rfl, HO.out, HB.out⟩
end Go.Proofs.Ytiegmpjoiekekaa
