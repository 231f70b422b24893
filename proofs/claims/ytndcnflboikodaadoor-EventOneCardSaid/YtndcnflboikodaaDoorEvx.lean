/-
  The words of a line (layer 15): event.split.
-/
import Derived.Test.YtndcnflboikodaaDoorEvk
import Derived.Test.YtndcnflboikodaaDoorOwn
namespace Go.Proofs.YtndcnflboikodaaDoor
open Go.RowKit
set_option linter.unusedVariables false
set_option linter.unusedSimpArgs false
theorem Tryd.infoStr9 : (Tryd.prog.info? 9).map (fun i => (i.zero, i.size, i.bytes)) = some (some (.string ⟨#[]⟩), 1, 16) := by kernel_rfl
def cellsW (ws : List (List UInt8)) : List Value := ws.map fun w => .string (textB w)
theorem cellsW_push (d : List (List UInt8)) (b : List UInt8) : cellsW d ++ [.string (textB b)] = cellsW (d ++ [b]) := by simp [cellsW]
/-- The words between the bytes c of a text. -/
structure WordsOf (c : UInt8) (bs : List UInt8) (ws : List (List UInt8)) : Prop where
  ne : ws ≠ []
  no : ∀ w ∈ ws, c ∉ w
  join : joinW c ws = bs
theorem WordsOf.length {c : UInt8} : ∀ {ws : List (List UInt8)} {bs : List UInt8}, WordsOf c bs ws → ws.length ≤ bs.length + 1
  | [], _, h => absurd rfl h.ne
  | [w], _, h => by simp
  | w :: v :: ws, bs, h => by
    have h2 : WordsOf c (joinW c (v :: ws)) (v :: ws) := ⟨by simp, fun u hu => h.no u (List.mem_cons_of_mem _ hu), rfl⟩
    have := h2.length
    have hj := h.join
    rw [joinW_cons] at hj
    rw [← hj]
    simp only [List.length_append, List.length_cons] at this ⊢
    omega
/-- What is left when words were taken off. -/
theorem words_last {c : UInt8} {bs q : List UInt8} {ws : List (List UInt8)} (hno : ∀ w ∈ ws, c ∉ w) (hq : c ∉ q) (hj : (ws = [] ∧ q = bs) ∨ (ws ≠ [] ∧ joinW c ws ++ c :: q = bs)) : WordsOf c bs (ws ++ [q]) := by
  refine ⟨by simp, fun w hw => ?_, ?_⟩
  · rw [List.mem_append, List.mem_singleton] at hw
    rcases hw with hw | rfl
    · exact hno w hw
    · exact hq
  · rcases hj with ⟨rfl, rfl⟩ | ⟨hne, rfl⟩
    · rfl
    · rw [joinW_snoc _ _ _ hne]
theorem words_next {c : UInt8} {bs p q : List UInt8} {ws : List (List UInt8)} (hj : (ws = [] ∧ p ++ c :: q = bs) ∨ (ws ≠ [] ∧ joinW c ws ++ c :: (p ++ c :: q) = bs)) : ws ++ [p] ≠ [] ∧ joinW c (ws ++ [p]) ++ c :: q = bs := by
  refine ⟨by simp, ?_⟩
  rcases hj with ⟨rfl, rfl⟩ | ⟨hne, rfl⟩
  · rfl
  · rw [joinW_snoc _ _ _ hne]; simp
theorem joinW_ge {c : UInt8} : ∀ (ws : List (List UInt8)), ws.length ≤ (joinW c ws).length + 1
  | [] => by simp
  | [w] => by simp
  | w :: v :: ws => by
    have := joinW_ge (c := c) (v :: ws)
    rw [joinW_cons]
    simp only [List.length_append, List.length_cons] at this ⊢
    omega
def SpPost (bs : List UInt8) (w : World) (e : Ending) (w' : World) : Prop :=
  ∃ v ws, e = .returned v ∧ WordsOf 32 bs ws ∧ w'.ownsRow w.heap.size 9 1 v ws.length (cellsW ws) ∧ Below w.heap.size w w'
set_option maxHeartbeats 8000000 in
set_option maxRecDepth 100000 in
theorem split15 (bs : List UInt8) (w : World) (hbs : bs.length ≤ 8796093022000) :
    Calls Tryd.prog 38 #[.string (textB bs)] w (SpPost bs w) := by
  have HB := Lib.hid (Below.refl w.heap.size w)
  have HBS := Lib.hid hbs
  go_enter Tryd.func38, Tryd.ntmps38
  go_wp2_with fail
  go_loopw [0, 3] (fun u v wr => ∃ (q : List UInt8) (ws : List (List UInt8)), u = .string (textB q) ∧ q.length ≤ bs.length ∧ Hid (∀ w ∈ ws, (32 : UInt8) ∉ w) ∧ Hid ((ws = [] ∧ q = bs) ∨ (ws ≠ [] ∧ joinW 32 ws ++ 32 :: q = bs)) ∧ Hid (wr.ownsRow w.heap.size 9 1 v ws.length (cellsW ws)) ∧ Hid (Below w.heap.size w wr)) (fun u _ _ => match u with | .string s => s.size | _ => 0)
  case atStart => exact ⟨bs, [], rfl, Nat.le_refl _, (by show ∀ w ∈ [], _; simp), .inl ⟨rfl, rfl⟩, World.ownsRow_nil _ _ _ _, HB⟩
  case round =>
    clear HB
    obtain ⟨q, ws, rfl, hq, HNO, HJ, HO, HB⟩ := hrel
    have hwl : ws.length ≤ bs.length + 1 := by
      rcases HJ.out with ⟨h, _⟩ | ⟨_, h⟩
      · rw [h]; simp
      · have h1 := joinW_ge (c := 32) ws
        have h2 := congrArg List.length h
        simp only [List.length_append, List.length_cons] at h2
        omega
    have hB9 := HB.out.size
    obtain ⟨A9, c9, rfl⟩ := own_sliceD HO.out
    go_wp2_with fail
    refine (cut15 q 32 wr (by omega)).mono ?_
    rintro e w2 ⟨hcut, hb2⟩
    have HB2 := Lib.hid (HB.out.trans (hb2.mono HB.out.size))
    have HO2 := Lib.hid (owned_below HO.out hb2)
    have hz2 := HB2.out.size
    clear HB HO hb2 hB9
    rcases hcut with ⟨p, r, hqe, hp, rfl⟩ | ⟨hno, rfl⟩
    · have HJ2 := Lib.hid (words_next (c := 32) (bs := bs) (p := p) (q := r) (ws := ws) (by rw [← hqe]; exact HJ.out))
      have hrl : r.length < q.length := by rw [hqe, List.length_append, List.length_cons]; omega
      have HN2 : Hid (∀ w ∈ ws ++ [p], (32 : UInt8) ∉ w) := fun w hw => by
        rw [List.mem_append, List.mem_singleton] at hw
        rcases hw with hw | rfl
        · exact HNO.out w hw
        · exact hp
      have hr0 := textB_size r
      have hq0 := textB_size q
      have HRS := Lib.hid hr0
      have HQS := Lib.hid hq0
      clear hqe hp HJ HNO hr0 hq0
      go_wp2_with (at_builtin; refine append_one _ (.string (textB p)) rfl (.tmp 13) (.tmp 15) 57 rfl w.heap.size 9 _ _ Tryd.underlying57 Tryd.infoStr9 rfl rfl _ _ _ rfl HO2.out rfl (by unfold maxLen; omega) (by omega) hz2 ?_)
      intro v3 w3 ho hb hgr
      rw [cellsW_push] at ho
      have HO3 : Hid (w3.ownsRow w.heap.size 9 1 v3 (ws ++ [p]).length (cellsW (ws ++ [p]))) := by
        show World.ownsRow _ _ _ _ _ _ _
        rw [List.length_append]; exact ho
      have HB3 := Lib.hid (HB2.out.trans hb)
      clear ho hb hgr HO2
      go_wp2
      go_roundw
      case rel => exact ⟨r, ws ++ [p], rfl, by omega, HN2, .inr HJ2.out, HO3, HB3⟩
      case measure =>
        show (textB r).size < (textB q).size
        rw [HRS.out, HQS.out]; exact hrl
    · have HW := Lib.hid (words_last HNO.out hno HJ.out)
      clear HJ HNO hno
      go_wp2_with (at_builtin; refine append_one _ (.string (textB q)) rfl (.tmp 13) (.tmp 15) 57 rfl w.heap.size 9 _ _ Tryd.underlying57 Tryd.infoStr9 rfl rfl _ _ _ rfl HO2.out rfl (by unfold maxLen; omega) (by omega) hz2 ?_)
      intro v3 w3 ho hb hgr
      rw [cellsW_push] at ho
      have HO3 : Hid (w3.ownsRow w.heap.size 9 1 v3 (ws ++ [q]).length (cellsW (ws ++ [q]))) := by
        show World.ownsRow _ _ _ _ _ _ _
        rw [List.length_append]; exact ho
      have HB3 := Lib.hid (HB2.out.trans hb)
      clear ho hb hgr HO2
      go_wp2
      go_ret
      exact ⟨_, _, rfl, HW.out, HO3.out, HB3.out⟩
end Go.Proofs.YtndcnflboikodaaDoor
