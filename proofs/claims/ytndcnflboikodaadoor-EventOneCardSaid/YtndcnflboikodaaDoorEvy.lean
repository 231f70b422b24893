/-
  The next field of a line (layer 15): event.readLine's own function.
-/
import Derived.Test.YtndcnflboikodaaDoorEvu
import Derived.Test.YtndcnflboikodaaDoorEvx
namespace Go.Proofs.YtndcnflboikodaaDoor
open Go.RowKit
set_option linter.unusedVariables false
set_option linter.unusedSimpArgs false
noncomputable def numB (bs : List UInt8) : Bool := @decide (∃ m, m < 18446744073709551616 ∧ decE m = bs) (Classical.propDecidable _)
noncomputable def numV (bs : List UInt8) : Nat := if numB bs = true then valD bs else 0
theorem numB_iff {bs : List UInt8} : numB bs = true ↔ ∃ m, m < 18446744073709551616 ∧ decE m = bs := @decide_eq_true_iff _ (Classical.propDecidable _)
theorem numB_dec {m : Nat} (h : m < 18446744073709551616) : numB (decE m) = true := by
  rw [numB_iff]
  exact Exists.intro m (And.intro h (Eq.refl _))
set_option maxRecDepth 100000 in
theorem numV_dec {m : Nat} (h : m < 18446744073709551616) : numV (decE m) = m := by
  have hb := numB_dec h
  unfold numV
  split
  · exact decE_val h
  · rename_i hn; exact absurd hb hn
theorem dec_numV {bs : List UInt8} (h : numB bs = true) : decE (numV bs) = bs := by
  obtain ⟨m, hm, rfl⟩ := numB_iff.1 h
  rw [numV_dec hm]
theorem numV_lt (bs : List UInt8) : numV bs < 18446744073709551616 := by
  cases h : numB bs with
  | true =>
    obtain ⟨m, hm, rfl⟩ := numB_iff.1 h
    rw [numV_dec hm]; exact hm
  | false => unfold numV; rw [h, if_neg (by decide)]; decide
theorem NumIs.get {bs : List UInt8} {n : Nat} {ok : Bool} (h : NumIs bs n ok) : n = numV bs ∧ ok = numB bs := by
  rcases h with ⟨rfl, h1, h2⟩ | ⟨rfl, h1, h2⟩
  · rw [← h2, numV_dec h1, numB_dec h1]; exact ⟨rfl, rfl⟩
  · have hb : numB bs = false := by
      cases hb : numB bs with
      | false => rfl
      | true =>
        obtain ⟨m, hm, e⟩ := numB_iff.1 hb
        exact absurd e (h2 m hm)
    unfold numV
    rw [hb, if_neg (by decide)]
    exact ⟨h1, rfl⟩
theorem number15v (bs : List UInt8) (w : World) (hbs : bs.length ≤ 140737488355328) :
    Calls Tryd.prog 40 #[.string (textB bs)] w fun e w' => e = .returned (.tuple #[.int .u64 ((numV bs : Nat) : Int), .bool (numB bs)]) ∧ w = w' := by
  refine (number15 bs w hbs).mono ?_
  rintro e w' ⟨⟨n, ok, rfl, h⟩, rfl⟩
  obtain ⟨rfl, rfl⟩ := h.get
  exact ⟨rfl, rfl⟩
noncomputable def nxV (fs : List (List UInt8)) (k : Nat) : Nat := match fs[k]? with | some f => numV f | none => 0
noncomputable def nxB (fs : List (List UInt8)) (k : Nat) (ok : Bool) : Bool := match fs[k]? with | some f => ok && numB f | none => ok
theorem nxV_some {fs : List (List UInt8)} {k : Nat} {f : List UInt8} (h : fs[k]? = some f) : nxV fs k = numV f := by unfold nxV; rw [h]
theorem nxB_some {fs : List (List UInt8)} {k : Nat} {f : List UInt8} (ok : Bool) (h : fs[k]? = some f) : nxB fs k ok = (ok && numB f) := by unfold nxB; rw [h]
theorem nxV_none {fs : List (List UInt8)} {k : Nat} (h : fs.length ≤ k) : nxV fs k = 0 := by unfold nxV; rw [List.getElem?_eq_none h]
theorem nxB_none {fs : List (List UInt8)} {k : Nat} (ok : Bool) (h : fs.length ≤ k) : nxB fs k ok = ok := by unfold nxB; rw [List.getElem?_eq_none h]
theorem nxV_lt (fs : List (List UInt8)) (k : Nat) : nxV fs k < 18446744073709551616 := by
  unfold nxV
  split
  · exact numV_lt _
  · decide
theorem cell_keptN {S : Nat → Prop} {w w' : World} {b i : Nat} (k : Kept S w w') (hl : b < w.heap.size) (hn : ¬ S b) : w'.cell? ⟨b, i, none⟩ = w.cell? ⟨b, i, none⟩ := by
  have := k.at_ b hl hn
  simp only [World.cell?, this]
def nxRows (a b : Nat) : Nat → Prop := fun j => j = a ∨ j = b
/-- The three captured variables: how many were wanted, the fields, and whether all were right. -/
structure NxAt (w : World) (gw gf gk : Nat) (k : Nat) (A : Option Addr) (n c : Nat) (ok : Bool) : Prop where
  cnt : Lies w gw 3 #[.int .i64 (k : Int)]
  fld : Lies w gf 57 #[.slice A n c]
  okk : Lies w gk 4 #[.bool ok]
theorem NxAt.below {w w' : World} {gw gf gk k : Nat} {A : Option Addr} {n c : Nat} {ok : Bool} (h : NxAt w gw gf gk k A n c ok) (hb : Below w.heap.size w w') : NxAt w' gw gf gk k A n c ok :=
  ⟨h.cnt.below hb h.cnt.lt, h.fld.below hb h.fld.lt, h.okk.below hb h.okk.lt⟩
set_option maxHeartbeats 8000000 in
set_option maxRecDepth 100000 in
theorem next15 (gw gf gk k : Nat) (A : Option Addr) (c : Nat) (fs : List (List UInt8)) (ok : Bool) (w : World) (h : NxAt w gw gf gk k A fs.length c ok) (hk : k ≤ 10) (hc : fs.length ≤ c) (hcm : c ≤ maxLen) (hA : A = none → fs = [])
    (hrow : ∀ i f, fs[i]? = some f → ∃ b off, A = some ⟨b, off, none⟩ ∧ b < w.heap.size ∧ w.cell? ⟨b, off + i, none⟩ = some (.string (textB f)) ∧ b ≠ gw) (hfl : ∀ f ∈ fs, f.length ≤ 140737488355328) :
    Calls Tryd.prog 39 #[.pointer (some ⟨gw, 0, none⟩), .pointer (some ⟨gf, 0, none⟩), .pointer (some ⟨gk, 0, none⟩)] w fun e w' =>
      e = .returned (.int .u64 ((nxV fs k : Nat) : Int)) ∧ NxAt w' gw gf gk (k + 1) A fs.length c (nxB fs k ok) ∧ Kept (nxRows gw gk) w w' := by
  have hne1 : gf ≠ gw := fun e => by subst e; exact absurd (h.fld.same h.cnt).1 (by decide)
  have hne2 : gk ≠ gw := fun e => by subst e; exact absurd (h.okk.same h.cnt).1 (by decide)
  have hne3 : gf ≠ gk := fun e => by subst e; exact absurd (h.fld.same h.okk).1 (by decide)
  have c0 := (h.cnt.cell 0).trans (show _ = some (Value.int .i64 (k : Int)) from rfl)
  have f0 := h.cnt.free 0
  have l0 := h.cnt.lt
  have kp := (Kept.put w gw 0 (.int .i64 ((k + 1 : Nat) : Int))).mono (T := nxRows gw gk) (fun i _ e => .inl e)
  have n1 : NxAt (w.setCell ⟨gw, 0, none⟩ (.int .i64 ((k + 1 : Nat) : Int))) gw gf gk (k + 1) A fs.length c ok :=
    ⟨h.cnt.put 0 _, h.fld.far (p := ⟨gw, 0, none⟩) hne1 _, h.okk.far (p := ⟨gw, 0, none⟩) hne2 _⟩
  have HROW := Lib.hid (show ∀ i f, fs[i]? = some f → ∃ b off, A = some ⟨b, off, none⟩ ∧ b < w.heap.size ∧ (w.setCell ⟨gw, 0, none⟩ (.int .i64 ((k + 1 : Nat) : Int))).cell? ⟨b, off + i, none⟩ = some (.string (textB f)) from fun i f hf => by
    obtain ⟨b, off, e, hl, hc, hn⟩ := hrow i f hf
    exact ⟨b, off, e, hl, (cell_keptN (Kept.put w gw 0 _) hl hn).trans hc⟩)
  have hcast : (((k + 1 : Nat) : Int)) = (k : Int) + 1 := by omega
  rw [hcast] at kp HROW n1
  have hk9 : (k : Int) + 1 ≤ 11 := by omega
  have N1 := Lib.hid n1
  have KP := Lib.hid kp
  have z0 := (n1.cnt.cell 0).trans (show _ = some (Value.int .i64 ((k + 1 : Nat) : Int)) from rfl)
  have z1 := n1.cnt.lt
  rw [hcast] at z0
  have HVS := Lib.hid (fun (f : List UInt8) (h : fs[k]? = some f) => nxV_some h)
  have HBS := Lib.hid (fun (f : List UInt8) (h : fs[k]? = some f) => nxB_some ok h)
  have HVN := Lib.hid (@nxV_none fs k)
  have HBN := Lib.hid (@nxB_none fs k ok)
  have HFL := Lib.hid hfl
  have HN2 := Lib.hid hne2
  have HN3 := Lib.hid hne3
  clear h hrow n1 kp hne1 hne2 hne3 hfl hcast
  unfold maxLen at hcm
  go_enter Tryd.func39, Tryd.ntmps39
  go_upto_region 2 with (fail)
  clear c0 f0 l0 z0 z1
  generalize w.setCell ⟨gw, 0, none⟩ (.int .i64 ((k : Int) + 1)) = w1 at *
  have c0 := (N1.out.cnt.cell 0).trans (show _ = some (Value.int .i64 ((k : Int) + 1)) from rfl)
  have l0 := N1.out.cnt.lt
  have d0 := (N1.out.fld.cell 0).trans (show _ = some (Value.slice A fs.length c) from rfl)
  have dl := N1.out.fld.lt
  by_cases hlt : fs.length ≤ k
  · have HV := Lib.hid (HVN.out hlt)
    have HB := Lib.hid (HBN.out hlt)
    have e1 : decide ((fs.length : Int) < (k : Int) + 1) = true := decide_eq_true (by omega)
    clear HVS HBS HVN HBN hlt HROW
    go_wp2
    go_ret
    rw [HV.out, HB.out]
    exact ⟨rfl, N1.out, KP.out⟩
  · have e1 : decide ((fs.length : Int) < (k : Int) + 1) = false := decide_eq_false (by omega)
    obtain ⟨f, hf⟩ : ∃ f, fs[k]? = some f := ⟨_, List.getElem?_eq_getElem (by omega)⟩
    obtain ⟨b, off, rfl, hb, g0⟩ := HROW.out k f hf
    have HV := Lib.hid (HVS.out f hf)
    have HB := Lib.hid (HBS.out f hf)
    have hfl := HFL.out f (List.mem_of_getElem? hf)
    have gl := World.block_lt_of_cell? _ _ g0
    have hkl : (k : Int) < (fs.length : Int) := by omega
    clear HVS HBS HVN HBN HROW HFL hf
    go_wp2_with fail
    refine (number15v f _ hfl).mono ?_
    rintro e w2 ⟨rfl, rfl⟩
    have q0 := (N1.out.okk.cell 0).trans (show _ = some (Value.bool ok) from rfl)
    have qf := N1.out.okk.free 0
    have ql := N1.out.okk.lt
    have kp2 := KP.out.trans ((Kept.put w1 gk 0 (.bool (ok && numB f))).mono (T := nxRows gw gk) (fun i _ e => .inr e)) (fun _ _ e => e)
    have n2 : NxAt (w1.setCell ⟨gk, 0, none⟩ (.bool (ok && numB f))) gw gf gk (k + 1) (some ⟨b, off, none⟩) fs.length c (ok && numB f) :=
      ⟨N1.out.cnt.far (p := ⟨gk, 0, none⟩) (fun e => HN2.out e.symm) _, N1.out.fld.far (p := ⟨gk, 0, none⟩) HN3.out _, N1.out.okk.put 0 _⟩
    have N2 := Lib.hid n2
    have KP2 := Lib.hid kp2
    clear n2 kp2 c0 l0 d0 dl g0 gl KP N1
    generalize hnb : numB f = nb at *
    clear hnb
    cases ok
    all_goals
      go_wp2
      go_ret
      rw [HV.out, HB.out]
      exact ⟨rfl, N2.out, KP2.out⟩
end Go.Proofs.YtndcnflboikodaaDoor
