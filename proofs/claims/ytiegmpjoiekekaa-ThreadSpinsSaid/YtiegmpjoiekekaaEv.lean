/-
  Events as data (layer 15), and which of them may be.
-/
import Derived.Test.YtiegmpjoiekekaaRowsof
import Derived.Test.YtiegmpjoiekekaaOwn
import Derived.Laws.StructEq
namespace Go.Proofs.Ytiegmpjoiekekaa
open Go.RowKit
set_option linter.unusedVariables false
set_option linter.unusedSimpArgs false
structure Ev where
  th : Int
  kd : Int
  rg : Int
  tk : Nat
  vl : Nat
instance : Inhabited Ev := ⟨⟨0, 0, 0, 0, 0⟩⟩
instance : DecidableEq Ev := fun a b => if h : a.th = b.th ∧ a.kd = b.kd ∧ a.rg = b.rg ∧ a.tk = b.tk ∧ a.vl = b.vl then isTrue (by cases a; cases b; simp_all) else isFalse (fun e => h (by rw [e]; simp))
def evF (x : Ev) : List Value := [.int .i64 x.th, .int .i64 x.kd, .int .i64 x.rg, .int .u64 (x.tk : Int), .int .u64 (x.vl : Int)]
abbrev evC (x : Ev) : Array Value := #[.int .i64 x.th, .int .i64 x.kd, .int .i64 x.rg, .int .u64 (x.tk : Int), .int .u64 (x.vl : Int)]
theorem evF_length (x : Ev) : (evF x).length = 5 := rfl
def evI64 (z : Int) : Prop := -9223372036854775808 ≤ z ∧ z ≤ 9223372036854775807
def evOk (x : Ev) : Prop := evI64 x.th ∧ evI64 x.kd ∧ evI64 x.rg ∧ x.tk ≤ 18446744073709551615 ∧ x.vl ≤ 18446744073709551615
/-- A slice of events. -/
abbrev EvsAt (w : World) (A : Option Addr) (c : Nat) (l : List Ev) : Prop := SeqS w 5 (.slice A l.length c) l.length (rowsOf evF l)
theorem EvsAt.at_ {w : World} {A : Option Addr} {c : Nat} {l : List Ev} (h : EvsAt w A c l) {i : Nat} {x : Ev} (hx : l[i]? = some x) : ∃ b off, A = some ⟨b, off, none⟩ ∧ b < w.heap.size ∧ ∀ j u, j < 5 → (evF x)[j]? = some u → w.cell? ⟨b, off + i * 5 + j, none⟩ = some u :=
  SeqS.at_ evF_length (by decide) h hx
theorem evHeld : Try.prog.stoodInHeld 42 = false := by kernel_rfl
theorem evGuard : Try.prog.eqGuardType Try.prog.depth 42 = false := by kernel_rfl
theorem evNeq (x y : Ev) (w : World) : (binOp .neq 42 (.agg (evC x)) (.agg (evC y))).run Try.prog w = .ok (.bool (!(decide (x = y)))) w := by
  have h1 := evHeld
  rw [run_neq_struct, run_equalIn_agg w 9999 _ _ _ (by simp only [Program.fieldsOf, Try.underlying42]) h1]
  simp only [Program.fieldsOf, Try.underlying42]
  obtain ⟨a, b, c, d, e⟩ := x
  obtain ⟨a', b', c', d', e'⟩ := y
  simp [go_sem]
  by_cases e1 : a = a'
  · by_cases e2 : b = b'
    · by_cases e3 : c = c'
      · by_cases e4 : d = d'
        · by_cases e5 : e = e'
          · simp [e1, e2, e3, e4, e5]
          · simp [e1, e2, e3, e4, e5]; try omega
        · simp [e1, e2, e3, e4]; try omega
      · simp [e1, e2, e3]; try omega
    · simp [e1, e2]; try omega
  · simp [e1]; try omega
/-! ## Kinds -/
def kindB (k : Int) : Bool := decide (1 ≤ k) && decide (k ≤ 15)
def ticketB (k : Int) : Bool := (k == 1) || ((k == 2) || ((k == 3) || ((k == 4) || (k == 13))))
def valueB (k : Int) : Bool := (k == 8) || ((k == 9) || ((k == 10) || (k == 12)))
def ringB (k : Int) : Bool := ticketB k || ((k == 5) || ((k == 6) || (k == 7)))
theorem isKind_any (k : Int) (w : World) : Calls Try.prog 49 #[.int .i64 k] w fun e w' => e = .returned (.bool (kindB k)) ∧ w = w' := by
  unfold kindB
  by_cases h : (1 : Int) ≤ k
  · have e1 : decide ((1 : Int) ≤ k) = true := by simpa using h
    go_enter Try.func49, Try.ntmps49
    go_wp2
    go_ret
    exact ⟨by simp [h], rfl⟩
  · have e1 : decide ((1 : Int) ≤ k) = false := by simpa using h
    go_enter Try.func49, Try.ntmps49
    go_wp2
    go_ret
    exact ⟨by simp [h], rfl⟩
theorem hasTicket_any (k : Int) (w : World) : Calls Try.prog 51 #[.int .i64 k] w fun e w' => e = .returned (.bool (ticketB k)) ∧ w = w' := by
  have hd : Hid (ticketB k = ((k == 1) || ((k == 2) || ((k == 3) || ((k == 4) || (k == 13)))))) := rfl
  generalize ticketB k = tb at *
  obtain ⟨a1, h1⟩ : ∃ a, (k == 1) = a := ⟨_, rfl⟩
  obtain ⟨a2, h2⟩ : ∃ a, (k == 2) = a := ⟨_, rfl⟩
  obtain ⟨a3, h3⟩ : ∃ a, (k == 3) = a := ⟨_, rfl⟩
  obtain ⟨a4, h4⟩ : ∃ a, (k == 4) = a := ⟨_, rfl⟩
  obtain ⟨a5, h5⟩ : ∃ a, (k == 13) = a := ⟨_, rfl⟩
  rw [h1, h2, h3, h4, h5] at hd
  cases a1 <;> cases a2 <;> cases a3 <;> cases a4 <;> cases a5
  all_goals
    obtain rfl := hd.out
    clear hd
    go_enter Try.func51, Try.ntmps51
    go_wp2
    go_ret
    exact ⟨rfl, rfl⟩
theorem hasValue_any (k : Int) (w : World) : Calls Try.prog 52 #[.int .i64 k] w fun e w' => e = .returned (.bool (valueB k)) ∧ w = w' := by
  have hd : Hid (valueB k = ((k == 8) || ((k == 9) || ((k == 10) || (k == 12))))) := rfl
  generalize valueB k = tb at *
  obtain ⟨a1, h1⟩ : ∃ a, (k == 8) = a := ⟨_, rfl⟩
  obtain ⟨a2, h2⟩ : ∃ a, (k == 9) = a := ⟨_, rfl⟩
  obtain ⟨a3, h3⟩ : ∃ a, (k == 10) = a := ⟨_, rfl⟩
  obtain ⟨a4, h4⟩ : ∃ a, (k == 12) = a := ⟨_, rfl⟩
  rw [h1, h2, h3, h4] at hd
  cases a1 <;> cases a2 <;> cases a3 <;> cases a4
  all_goals
    obtain rfl := hd.out
    clear hd
    go_enter Try.func52, Try.ntmps52
    go_wp2
    go_ret
    exact ⟨rfl, rfl⟩
theorem rings_any (k : Int) (w : World) : Calls Try.prog 50 #[.int .i64 k] w fun e w' => e = .returned (.bool (ringB k)) ∧ w = w' := by
  have hd : Hid (ringB k = (ticketB k || ((k == 5) || ((k == 6) || (k == 7))))) := rfl
  have HT := Lib.hid (hasTicket_any k w)
  generalize ringB k = rb at *
  generalize ticketB k = tb at *
  obtain ⟨a1, h1⟩ : ∃ a, (k == 5) = a := ⟨_, rfl⟩
  obtain ⟨a2, h2⟩ : ∃ a, (k == 6) = a := ⟨_, rfl⟩
  obtain ⟨a3, h3⟩ : ∃ a, (k == 7) = a := ⟨_, rfl⟩
  rw [h1, h2, h3] at hd
  cases tb <;> cases a1 <;> cases a2 <;> cases a3
  all_goals
    obtain rfl := hd.out
    clear hd
    go_enter Try.func50, Try.ntmps50
    go_wp2_with fail
    refine HT.out.mono ?_
    rintro e w2 ⟨rfl, rfl⟩
    clear HT
    go_wp2
    go_ret
    exact ⟨rfl, rfl⟩
/-! ## The document's words of a kind -/
theorem ret_str {a b : ByteArray} (h : a = b) : Ending.returned (.string a) = .returned (.string b) := by rw [h]
def nmsB (k : Int) : ByteArray := if ticketB k = true then ⟨#[82, 84]⟩ else if ringB k = true then ⟨#[82]⟩ else if valueB k = true then ⟨#[86]⟩ else ⟨#[]⟩
theorem kinds_apart (k : Int) : (ticketB k = true ∧ ringB k = true ∧ valueB k = false) ∨ (ticketB k = false ∧ ringB k = true ∧ valueB k = false) ∨ (ticketB k = false ∧ ringB k = false ∧ valueB k = true) ∨ (ticketB k = false ∧ ringB k = false ∧ valueB k = false) := by
  unfold ringB
  cases ht : ticketB k with
  | true =>
    refine .inl ⟨rfl, rfl, ?_⟩
    unfold ticketB at ht
    simp only [Bool.or_eq_true, beq_iff_eq] at ht
    unfold valueB
    simp only [Bool.or_eq_false_iff, beq_eq_false_iff_ne]
    omega
  | false =>
    cases hr : ((k == 5) || ((k == 6) || (k == 7))) with
    | true =>
      refine .inr (.inl ⟨rfl, rfl, ?_⟩)
      simp only [Bool.or_eq_true, beq_iff_eq] at hr
      unfold valueB
      simp only [Bool.or_eq_false_iff, beq_eq_false_iff_ne]
      omega
    | false =>
      cases hv : valueB k with
      | true => exact .inr (.inr (.inl ⟨rfl, rfl, rfl⟩))
      | false => exact .inr (.inr (.inr ⟨rfl, rfl, rfl⟩))
theorem rfNames (k : Int) (w : World) : Calls Try.prog 37 #[.int .i64 k] w fun e w' => e = .returned (.string (nmsB k)) ∧ w = w' := by
  have hd : Hid (nmsB k = if ticketB k = true then ⟨#[82, 84]⟩ else if ringB k = true then ⟨#[82]⟩ else if valueB k = true then ⟨#[86]⟩ else ⟨#[]⟩) := rfl
  by_cases hk : 1 ≤ k ∧ k ≤ 13
  · have hc : k = 1 ∨ k = 2 ∨ k = 3 ∨ k = 4 ∨ k = 5 ∨ k = 6 ∨ k = 7 ∨ k = 8 ∨ k = 9 ∨ k = 10 ∨ k = 11 ∨ k = 12 ∨ k = 13 := by omega
    clear hk
    rcases hc with rfl | rfl | rfl | rfl | rfl | rfl | rfl | rfl | rfl | rfl | rfl | rfl | rfl
    all_goals
      clear hd
      go_enter Try.func37, Try.ntmps37
      go_wp2
      go_ret
      exact ⟨ret_str (by decide +kernel), rfl⟩
  · have h1 : (k == 1) = false := by rw [beq_eq_false_iff_ne]; omega
    have h2 : (k == 2) = false := by rw [beq_eq_false_iff_ne]; omega
    have h3 : (k == 3) = false := by rw [beq_eq_false_iff_ne]; omega
    have h4 : (k == 4) = false := by rw [beq_eq_false_iff_ne]; omega
    have h5 : (k == 5) = false := by rw [beq_eq_false_iff_ne]; omega
    have h6 : (k == 6) = false := by rw [beq_eq_false_iff_ne]; omega
    have h7 : (k == 7) = false := by rw [beq_eq_false_iff_ne]; omega
    have h8 : (k == 8) = false := by rw [beq_eq_false_iff_ne]; omega
    have h9 : (k == 9) = false := by rw [beq_eq_false_iff_ne]; omega
    have h10 : (k == 10) = false := by rw [beq_eq_false_iff_ne]; omega
    have h12 : (k == 12) = false := by rw [beq_eq_false_iff_ne]; omega
    have h13 : (k == 13) = false := by rw [beq_eq_false_iff_ne]; omega
    have HE : Hid (nmsB k = ⟨#[]⟩) := by
      show _ = _
      rw [hd.out]
      unfold ringB ticketB valueB
      rw [h1, h2, h3, h4, h5, h6, h7, h8, h9, h10, h12, h13]
      rfl
    clear hd
    go_enter Try.func37, Try.ntmps37
    go_wp2
    go_ret
    exact ⟨ret_str HE.out.symm, rfl⟩
end Go.Proofs.Ytiegmpjoiekekaa
