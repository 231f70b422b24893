/-
  check: onRing, rightRing, instr.
-/
import Derived.Test.YteecfffgigaomaaCode2
namespace Go.Proofs.Yteecfffgigaomaa
open Go.RowKit
set_option linter.unusedVariables false
set_option linter.unusedSimpArgs false
def ringB (r : Ri) : Bool := decide (1 ≤ r.c ∧ r.c ≤ 64 ∧ (r.k = 1 ∧ r.r = 1 ∨ r.k = 2 ∧ 1 ≤ r.r ∧ r.r ≤ 8))
/-- What is wrong with an instruction. -/
def instrE (rs : List Ri) (n : Nat) (x : In) : Nat :=
  if rightB x = false then 6 else if jumpsB x.op = true ∧ n < x.k then 5 else if onRingB x.op = false then 0 else if (rs.length : Int) ≤ x.c then 7 else if x.op = 19 ∧ (rs.getD x.c.toNat default).r ≤ (x.k : Int) then 7 else 0
theorem onRing_any (x : In) (w : World) : Calls Try.prog 30 #[.agg (inC x)] w fun e w' => e = .returned (.bool (onRingB x.op)) ∧ Below w.heap.size w w' := by
  unfold onRingB
  have hb : Below w.heap.size w (w.alloc (.cells (inC x) 48)) := (Below.refl _ _).alloc (Nat.le_refl _) _
  obtain ⟨b1, h1⟩ : ∃ b, (x.op == 18) = b := ⟨_, rfl⟩
  obtain ⟨b2, h2⟩ : ∃ b, (x.op == 19) = b := ⟨_, rfl⟩
  obtain ⟨b3, h3⟩ : ∃ b, (x.op == 20) = b := ⟨_, rfl⟩
  cases b1
  · cases b2
    · go_enter Try.func30, Try.ntmps30
      go_wp2
      go_ret
      exact ⟨ret_bool (by simp [h1, h2, h3]), hb⟩
    · go_enter Try.func30, Try.ntmps30
      go_wp2
      go_ret
      exact ⟨ret_bool (by simp [h1, h2, h3]), hb⟩
  · go_enter Try.func30, Try.ntmps30
    go_wp2
    go_ret
    exact ⟨ret_bool (by simp [h1, h2, h3]), hb⟩
theorem rightRing_any (x : Ri) (w : World) : Calls Try.prog 23 #[.agg (riC x)] w fun e w' => e = .returned (.bool (ringB x)) ∧ Below w.heap.size w w' := by
  have hb : Below w.heap.size w (w.alloc (.cells (riC x) 55)) := (Below.refl _ _).alloc (Nat.le_refl _) _
  have hr : ringB x = decide (1 ≤ x.c ∧ x.c ≤ 64 ∧ (x.k = 1 ∧ x.r = 1 ∨ x.k = 2 ∧ 1 ≤ x.r ∧ x.r ≤ 8)) := rfl
  have HR := Lib.hid hr
  clear hr
  by_cases h1 : x.c < 1
  · have HF := Lib.hid (show ringB x = false from decide_eq_false (by omega))
    have e1 : decide (x.c < 1) = true := by simpa using h1
    clear HR
    go_enter Try.func23, Try.ntmps23
    go_wp2
    go_ret
    exact ⟨ret_bool (by rw [HF.out]), hb⟩
  have e1 : decide (x.c < 1) = false := by simpa using h1
  by_cases h2 : 64 < x.c
  · have HF := Lib.hid (show ringB x = false from decide_eq_false (by omega))
    have e2 : decide (64 < x.c) = true := by simpa using h2
    clear HR
    go_enter Try.func23, Try.ntmps23
    go_wp2
    go_ret
    exact ⟨ret_bool (by rw [HF.out]), hb⟩
  have e2 : decide (64 < x.c) = false := by simpa using h2
  by_cases h3 : x.k = 1
  · have HF := Lib.hid (show ringB x = (x.r == 1) by rw [HR.out, Bool.eq_iff_iff, decide_eq_true_eq, beq_iff_eq]; omega)
    have e3 : (x.k == 1) = true := by simpa using h3
    clear HR h3
    go_enter Try.func23, Try.ntmps23
    go_wp2
    go_ret
    exact ⟨ret_bool (by rw [HF.out]), hb⟩
  have e3 : (x.k == 1) = false := by simpa using h3
  by_cases h4 : x.k = 2
  · have HF := Lib.hid (show ringB x = (decide (1 ≤ x.r) && decide (x.r ≤ 8)) by rw [HR.out, Bool.eq_iff_iff, decide_eq_true_eq, Bool.and_eq_true, decide_eq_true_eq, decide_eq_true_eq]; omega)
    have e4 : (x.k == 2) = true := by simpa using h4
    clear HR h3 h4
    by_cases h5 : (1 : Int) ≤ x.r
    · have e5 : decide ((1 : Int) ≤ x.r) = true := by simpa using h5
      go_enter Try.func23, Try.ntmps23
      go_wp2
      go_ret
      exact ⟨ret_bool (by rw [HF.out]; simp [h5]), hb⟩
    · have e5 : decide ((1 : Int) ≤ x.r) = false := by simpa using h5
      go_enter Try.func23, Try.ntmps23
      go_wp2
      go_ret
      exact ⟨ret_bool (by rw [HF.out]; simp; omega), hb⟩
  have e4 : (x.k == 2) = false := by simpa using h4
  have HF := Lib.hid (show ringB x = false from decide_eq_false (by omega))
  clear HR h3 h4
  go_enter Try.func23, Try.ntmps23
  go_wp2
  go_ret
  exact ⟨ret_bool (by rw [HF.out]), hb⟩
/-- A right instruction on a ring. -/
theorem right_ring {x : In} (h : rightB x = true) (h2 : onRingB x.op = true) : 0 ≤ x.c ∧ x.c ≤ 7 := by
  unfold onRingB at h2
  simp only [Bool.or_eq_true, beq_iff_eq] at h2
  unfold rightB at h
  simp only [Bool.and_eq_true] at h
  have h3 := h.2.2.2.1
  unfold wB at h3
  simp only [Bool.and_eq_true, decide_eq_true_eq] at h3
  rcases h2 with e | e | e <;> (rw [e] at h3; exact h3)
set_option maxHeartbeats 8000000 in
set_option maxRecDepth 100000 in
theorem instr_any (rs : List Ri) (A : Option Addr) (c n : Nat) (x : In) (w : World) (h : RisAt w A c rs) (hok : ∀ r ∈ rs, ringB r = true) (hn : n ≤ 1000000) (hk : x.k ≤ 18446744073709551615) :
    Calls Try.prog 24 #[.slice A rs.length c, .int .i64 (n : Int), .agg (inC x)] w fun e w' => e = .returned (.int .i64 (instrE rs n x : Nat)) ∧ Below w.heap.size w w' := by
  obtain ⟨hc1, hc2⟩ := seq_form h
  have hb0 : Below w.heap.size w (w.alloc (.cells (inC x) 48)) := (Below.refl _ _).alloc (Nat.le_refl _) _
  have l0 := Lies.made w 48 (inC x)
  have HH := Lib.hid h
  have HO := Lib.hid hok
  have HB0 := Lib.hid hb0
  have HL0 := Lib.hid l0
  have HE : Hid (instrE rs n x = _) := show instrE rs n x = _ by unfold instrE; rfl
  have HR := Lib.hid (fun w => right_any x w)
  have HJ := Lib.hid (fun w => jumps_any x w)
  have HN := Lib.hid (fun w => onRing_any x w)
  obtain ⟨rb, hrb⟩ : ∃ b, rightB x = b := ⟨_, rfl⟩
  obtain ⟨jb, hjb⟩ : ∃ b, jumpsB x.op = b := ⟨_, rfl⟩
  obtain ⟨nb, hnb⟩ : ∃ b, onRingB x.op = b := ⟨_, rfl⟩
  have HC := Lib.hid (fun h1 h2 => @right_ring x h1 h2)
  rw [hrb] at HR HE HC
  rw [hjb] at HJ HE
  rw [hnb] at HN HE HC
  clear h hok hb0 l0 hrb hjb hnb
  go_enter Try.func24, Try.ntmps24
  go_wp2_with fail
  generalize w.alloc (.cells (inC x) 48) = w1 at *
  refine (HR.out _).mono ?_
  rintro e w2 ⟨rfl, hb2⟩
  replace HL0 := Lib.hid (HL0.out.below hb2 HL0.out.lt)
  replace HB0 := Lib.hid (HB0.out.trans ((hb2).mono HB0.out.size))
  clear hb2
  have x0 := (HL0.out.cell 0).trans (show _ = some (Value.int .i64 x.op) from rfl)
  have x1 := (HL0.out.cell 1).trans (show _ = some (Value.int .i64 x.a) from rfl)
  have x2 := (HL0.out.cell 2).trans (show _ = some (Value.int .i64 x.b) from rfl)
  have x3 := (HL0.out.cell 3).trans (show _ = some (Value.int .i64 x.c) from rfl)
  have x4 := (HL0.out.cell 4).trans (show _ = some (Value.int .i64 x.d) from rfl)
  have x5 := (HL0.out.cell 5).trans (show _ = some (Value.int .u64 (x.k : Int)) from rfl)
  have hx := HL0.out.lt
  cases rb
  · have HE : Hid (instrE rs n x = 6) := HE.out.trans (if_pos rfl)
    go_wp2
    go_ret
    exact ⟨ret_int (by rw [HE.out]; rfl), HB0.out⟩
  have HE := Lib.hid (HE.out.trans (if_neg (by decide)))
  go_wp2_with fail
  refine (HJ.out _).mono ?_
  rintro e w3 ⟨rfl, hb3⟩
  clear x0 x1 x2 x3 x4 x5 hx
  replace HL0 := Lib.hid (HL0.out.below hb3 HL0.out.lt)
  replace HB0 := Lib.hid (HB0.out.trans ((hb3).mono HB0.out.size))
  clear hb3
  have x0 := (HL0.out.cell 0).trans (show _ = some (Value.int .i64 x.op) from rfl)
  have x1 := (HL0.out.cell 1).trans (show _ = some (Value.int .i64 x.a) from rfl)
  have x2 := (HL0.out.cell 2).trans (show _ = some (Value.int .i64 x.b) from rfl)
  have x3 := (HL0.out.cell 3).trans (show _ = some (Value.int .i64 x.c) from rfl)
  have x4 := (HL0.out.cell 4).trans (show _ = some (Value.int .i64 x.d) from rfl)
  have x5 := (HL0.out.cell 5).trans (show _ = some (Value.int .u64 (x.k : Int)) from rfl)
  have hx := HL0.out.lt
  by_cases hj : jb = true ∧ n < x.k
  · have HE5 : Hid (instrE rs n x = 5) := HE.out.trans (if_pos hj)
    clear HE
    obtain ⟨rfl, hj⟩ := hj
    have e1 : decide ((n : Int) < (x.k : Int)) = true := by simp; omega
    have e2 : decide (n < x.k) = true := by simpa using hj
    go_wp2
    go_ret
    exact ⟨ret_int (by rw [HE5.out]; rfl), HB0.out⟩
  have HEJ := Lib.hid (HE.out.trans (if_neg hj))
  clear HE
  have hcut : jb = false ∨ (jb = true ∧ decide (n < x.k) = false) := by
    cases jb
    · exact .inl rfl
    · exact .inr ⟨rfl, by simpa using fun h => hj ⟨rfl, h⟩⟩
  clear hj
  rcases hcut with rfl | ⟨rfl, hd⟩
  · clear x0 x1 x2 x3 x4 x5 hx
    have x0 := (HL0.out.cell 0).trans (show _ = some (Value.int .i64 x.op) from rfl)
    have x1 := (HL0.out.cell 1).trans (show _ = some (Value.int .i64 x.a) from rfl)
    have x2 := (HL0.out.cell 2).trans (show _ = some (Value.int .i64 x.b) from rfl)
    have x3 := (HL0.out.cell 3).trans (show _ = some (Value.int .i64 x.c) from rfl)
    have x4 := (HL0.out.cell 4).trans (show _ = some (Value.int .i64 x.d) from rfl)
    have x5 := (HL0.out.cell 5).trans (show _ = some (Value.int .u64 (x.k : Int)) from rfl)
    have hx := HL0.out.lt
    go_wp2_with fail
    refine (HN.out _).mono ?_
    rintro e w4 ⟨rfl, hb4⟩
    clear x0 x1 x2 x3 x4 x5 hx
    replace HL0 := Lib.hid (HL0.out.below hb4 HL0.out.lt)
    replace HB0 := Lib.hid (HB0.out.trans ((hb4).mono HB0.out.size))
    clear hb4
    have x0 := (HL0.out.cell 0).trans (show _ = some (Value.int .i64 x.op) from rfl)
    have x1 := (HL0.out.cell 1).trans (show _ = some (Value.int .i64 x.a) from rfl)
    have x2 := (HL0.out.cell 2).trans (show _ = some (Value.int .i64 x.b) from rfl)
    have x3 := (HL0.out.cell 3).trans (show _ = some (Value.int .i64 x.c) from rfl)
    have x4 := (HL0.out.cell 4).trans (show _ = some (Value.int .i64 x.d) from rfl)
    have x5 := (HL0.out.cell 5).trans (show _ = some (Value.int .u64 (x.k : Int)) from rfl)
    have hx := HL0.out.lt
    cases nb
    · have HE9 : Hid (instrE rs n x = 0) := HEJ.out.trans (if_pos rfl)
      go_wp2
      go_ret
      exact ⟨ret_int (by rw [HE9.out]; rfl), HB0.out⟩
    have HE3 := Lib.hid (HEJ.out.trans (if_neg (by decide)))
    obtain ⟨hc0, hc7⟩ := HC.out trivial rfl
    by_cases hcl : (rs.length : Int) ≤ x.c
    · have HE9 : Hid (instrE rs n x = 7) := HE3.out.trans (if_pos hcl)
      have e3 : decide ((rs.length : Int) ≤ x.c) = true := by simpa using hcl
      go_wp2
      go_ret
      exact ⟨ret_int (by rw [HE9.out]; rfl), HB0.out⟩
    have HE4 := Lib.hid (HE3.out.trans (if_neg hcl))
    have e3 : decide ((rs.length : Int) ≤ x.c) = false := by simpa using hcl
    by_cases h19 : x.op = 19
    · have e4 : (x.op == 19) = true := by simpa using h19
      obtain ⟨r, hr⟩ : ∃ r, rs[x.c.toNat]? = some r := ⟨_, List.getElem?_eq_getElem (by omega)⟩
      have hgd : rs.getD x.c.toNat default = r := by rw [List.getD_eq_getElem?_getD, hr]; rfl
      have hro := of_decide_eq_true (HO.out r (List.mem_of_getElem? hr))
      obtain ⟨b, off, rfl, hbl, hg⟩ := RisAt.at_ (HH.out.later HB0.out) hr
      have g2 := hg 2 _ (by decide) rfl
      have hr1 : 1 ≤ r.r := by omega
      have hr8 : r.r ≤ 8 := by omega
      have hcl2 : x.c < (rs.length : Int) := by omega
      rw [hgd] at HE4
      clear hg hro hgd hr
      by_cases hrk : r.r ≤ (x.k : Int)
      · have HE9 : Hid (instrE rs n x = 7) := HE4.out.trans (if_pos ⟨h19, hrk⟩)
        have e5 : decide (r.r ≤ (x.k : Int)) = true := by simpa using hrk
        have e6 : IntKind.u64.wrap r.r = r.r := IntWalk.u64_in _ (by omega)
        clear h19 HEJ HE3 HE4
        go_wp2
        go_quiet (fail)
        go_wp2
        go_ret
        exact ⟨ret_int (by rw [HE9.out]; rfl), below_drewN HB0.out _⟩
      · have HE9 : Hid (instrE rs n x = 0) := HE4.out.trans (if_neg (fun h => hrk h.2))
        have e5 : decide (r.r ≤ (x.k : Int)) = false := by simpa using hrk
        have e6 : IntKind.u64.wrap r.r = r.r := IntWalk.u64_in _ (by omega)
        clear h19 HEJ HE3 HE4
        go_wp2
        go_quiet (fail)
        go_wp2
        go_ret
        exact ⟨ret_int (by rw [HE9.out]; rfl), below_drewN HB0.out _⟩
    · have HE9 : Hid (instrE rs n x = 0) := HE4.out.trans (if_neg (fun h => h19 h.1))
      have e4 : (x.op == 19) = false := by simpa using h19
      clear h19 HEJ HE3 HE4
      go_wp2
      go_quiet (fail)
      go_wp2
      go_ret
      exact ⟨ret_int (by rw [HE9.out]; rfl), below_drewN HB0.out _⟩
  · have hd2 : decide ((n : Int) < (x.k : Int)) = false := by simpa using hd
    clear x0 x1 x2 x3 x4 x5 hx
    have x0 := (HL0.out.cell 0).trans (show _ = some (Value.int .i64 x.op) from rfl)
    have x1 := (HL0.out.cell 1).trans (show _ = some (Value.int .i64 x.a) from rfl)
    have x2 := (HL0.out.cell 2).trans (show _ = some (Value.int .i64 x.b) from rfl)
    have x3 := (HL0.out.cell 3).trans (show _ = some (Value.int .i64 x.c) from rfl)
    have x4 := (HL0.out.cell 4).trans (show _ = some (Value.int .i64 x.d) from rfl)
    have x5 := (HL0.out.cell 5).trans (show _ = some (Value.int .u64 (x.k : Int)) from rfl)
    have hx := HL0.out.lt
    go_wp2_with fail
    refine (HN.out _).mono ?_
    rintro e w4 ⟨rfl, hb4⟩
    clear x0 x1 x2 x3 x4 x5 hx
    replace HL0 := Lib.hid (HL0.out.below hb4 HL0.out.lt)
    replace HB0 := Lib.hid (HB0.out.trans ((hb4).mono HB0.out.size))
    clear hb4
    have x0 := (HL0.out.cell 0).trans (show _ = some (Value.int .i64 x.op) from rfl)
    have x1 := (HL0.out.cell 1).trans (show _ = some (Value.int .i64 x.a) from rfl)
    have x2 := (HL0.out.cell 2).trans (show _ = some (Value.int .i64 x.b) from rfl)
    have x3 := (HL0.out.cell 3).trans (show _ = some (Value.int .i64 x.c) from rfl)
    have x4 := (HL0.out.cell 4).trans (show _ = some (Value.int .i64 x.d) from rfl)
    have x5 := (HL0.out.cell 5).trans (show _ = some (Value.int .u64 (x.k : Int)) from rfl)
    have hx := HL0.out.lt
    cases nb
    · have HE9 : Hid (instrE rs n x = 0) := HEJ.out.trans (if_pos rfl)
      go_wp2
      go_ret
      exact ⟨ret_int (by rw [HE9.out]; rfl), HB0.out⟩
    have HE3 := Lib.hid (HEJ.out.trans (if_neg (by decide)))
    obtain ⟨hc0, hc7⟩ := HC.out trivial rfl
    by_cases hcl : (rs.length : Int) ≤ x.c
    · have HE9 : Hid (instrE rs n x = 7) := HE3.out.trans (if_pos hcl)
      have e3 : decide ((rs.length : Int) ≤ x.c) = true := by simpa using hcl
      go_wp2
      go_ret
      exact ⟨ret_int (by rw [HE9.out]; rfl), HB0.out⟩
    have HE4 := Lib.hid (HE3.out.trans (if_neg hcl))
    have e3 : decide ((rs.length : Int) ≤ x.c) = false := by simpa using hcl
    by_cases h19 : x.op = 19
    · have e4 : (x.op == 19) = true := by simpa using h19
      obtain ⟨r, hr⟩ : ∃ r, rs[x.c.toNat]? = some r := ⟨_, List.getElem?_eq_getElem (by omega)⟩
      have hgd : rs.getD x.c.toNat default = r := by rw [List.getD_eq_getElem?_getD, hr]; rfl
      have hro := of_decide_eq_true (HO.out r (List.mem_of_getElem? hr))
      obtain ⟨b, off, rfl, hbl, hg⟩ := RisAt.at_ (HH.out.later HB0.out) hr
      have g2 := hg 2 _ (by decide) rfl
      have hr1 : 1 ≤ r.r := by omega
      have hr8 : r.r ≤ 8 := by omega
      have hcl2 : x.c < (rs.length : Int) := by omega
      rw [hgd] at HE4
      clear hg hro hgd hr
      by_cases hrk : r.r ≤ (x.k : Int)
      · have HE9 : Hid (instrE rs n x = 7) := HE4.out.trans (if_pos ⟨h19, hrk⟩)
        have e5 : decide (r.r ≤ (x.k : Int)) = true := by simpa using hrk
        have e6 : IntKind.u64.wrap r.r = r.r := IntWalk.u64_in _ (by omega)
        clear h19 HEJ HE3 HE4
        go_wp2
        go_quiet (fail)
        go_wp2
        go_ret
        exact ⟨ret_int (by rw [HE9.out]; rfl), below_drewN HB0.out _⟩
      · have HE9 : Hid (instrE rs n x = 0) := HE4.out.trans (if_neg (fun h => hrk h.2))
        have e5 : decide (r.r ≤ (x.k : Int)) = false := by simpa using hrk
        have e6 : IntKind.u64.wrap r.r = r.r := IntWalk.u64_in _ (by omega)
        clear h19 HEJ HE3 HE4
        go_wp2
        go_quiet (fail)
        go_wp2
        go_ret
        exact ⟨ret_int (by rw [HE9.out]; rfl), below_drewN HB0.out _⟩
    · have HE9 : Hid (instrE rs n x = 0) := HE4.out.trans (if_neg (fun h => h19 h.1))
      have e4 : (x.op == 19) = false := by simpa using h19
      clear h19 HEJ HE3 HE4
      go_wp2
      go_quiet (fail)
      go_wp2
      go_ret
      exact ⟨ret_int (by rw [HE9.out]; rfl), below_drewN HB0.out _⟩
end Go.Proofs.Yteecfffgigaomaa
