/-
  The document's instr (layer 11): what is wrong with an instruction that may be.
-/
import Derived.Test.YteecfffgigaomaaRf11
namespace Go.Proofs.Yteecfffgigaomaa
open Go.RowKit
set_option linter.unusedVariables false
set_option linter.unusedSimpArgs false
theorem instrE_jump {rs : List Ri} {n : Nat} {x : In} (h : rightB x = true) (h1 : 15 ≤ x.op) (h2 : x.op ≤ 17) : instrE rs n x = if n < x.k then 5 else 0 := by
  unfold instrE
  have hj : jumpsB x.op = true := by unfold jumpsB; rw [decide_eq_true h1, decide_eq_true h2]; rfl
  have hn : onRingB x.op = false := by
    unfold onRingB
    rw [Bool.or_eq_false_iff, Bool.or_eq_false_iff, beq_eq_false_iff_ne, beq_eq_false_iff_ne, beq_eq_false_iff_ne]; omega
  rw [if_neg (by rw [h]; decide), hj, hn]
  by_cases hk : n < x.k
  · rw [if_pos ⟨rfl, hk⟩, if_pos hk]
  · rw [if_neg (fun h => hk h.2), if_pos rfl, if_neg hk]
theorem instrE_other {rs : List Ri} {n : Nat} {x : In} (h : rightB x = true) (h1 : ¬ (15 ≤ x.op ∧ x.op ≤ 20)) : instrE rs n x = 0 := by
  unfold instrE
  have hj : jumpsB x.op = false := by
    unfold jumpsB
    rw [Bool.and_eq_false_iff, decide_eq_false_iff_not, decide_eq_false_iff_not]; omega
  have hn : onRingB x.op = false := by
    unfold onRingB
    rw [Bool.or_eq_false_iff, Bool.or_eq_false_iff, beq_eq_false_iff_ne, beq_eq_false_iff_ne, beq_eq_false_iff_ne]; omega
  rw [if_neg (by rw [h]; decide), hj, hn, if_neg (fun h => by cases h.1), if_pos rfl]
theorem instrE_ring {rs : List Ri} {n : Nat} {x : In} (h : rightB x = true) (h1 : 18 ≤ x.op) (h2 : x.op ≤ 20) : (0 ≤ x.c ∧ x.c ≤ 7) ∧ instrE rs n x = if (rs.length : Int) ≤ x.c then 7 else if x.op = 19 ∧ (rs.getD x.c.toNat default).r ≤ (x.k : Int) then 7 else 0 := by
  have hj : jumpsB x.op = false := by
    unfold jumpsB
    rw [Bool.and_eq_false_iff, decide_eq_false_iff_not, decide_eq_false_iff_not]; omega
  have hn : onRingB x.op = true := by
    unfold onRingB
    rw [Bool.or_eq_true, Bool.or_eq_true, beq_iff_eq, beq_iff_eq, beq_iff_eq]; omega
  refine ⟨right_ring h hn, ?_⟩
  unfold instrE
  rw [if_neg (by rw [h]; decide), hj, hn, if_neg (fun h => by cases h.1), if_neg (by decide)]
set_option maxHeartbeats 8000000 in
set_option maxRecDepth 100000 in
theorem r11Instr (p : Pg) (A : Option Addr) (c : Nat) (B : Option Addr) (d n : Nat) (x : In) (w : World) (h : RisAt w A c p.rs) (hok : ∀ r ∈ p.rs, ringB r = true) (hr : rightB x = true) (hn : n ≤ 1000000) (hk : x.k ≤ 18446744073709551615) :
    Calls Try.prog 27 #[.agg (pgC A c B d p), .agg (inC x), .int .i64 (n : Int)] w fun e w' => e = .returned (.int .i64 (instrE p.rs n x : Nat)) ∧ Below w.heap.size w w' := by
  obtain ⟨hc1, hc2⟩ := seq_form h
  have hb0 : Below w.heap.size w ((w.alloc (.cells (pgC A c B d p) 25)).alloc (.cells (inC x) 48)) := ((Below.refl _ _).alloc (Nat.le_refl _) _).alloc (by simp) _
  have l0 := (Lies.made w 25 (pgC A c B d p)).alloc (.cells (inC x) 48)
  have l1 := Lies.made (w.alloc (.cells (pgC A c B d p) 25)) 48 (inC x)
  rw [World.size_alloc] at l1
  have HH := Lib.hid h
  have HO := Lib.hid hok
  have HB0 := Lib.hid hb0
  have HL0 := Lib.hid l0
  have HL1 := Lib.hid l1
  clear h hok hb0 l0 l1
  by_cases h1 : x.op < 15
  · have HE9 := Lib.hid (instrE_other (rs := p.rs) (n := n) hr (by omega))
    have a15 : decide ((15 : Int) ≤ x.op) = false := by simp; omega
    have a18 : decide ((18 : Int) ≤ x.op) = false := by simp; omega
    have a19 : (x.op == 19) = false := by rw [beq_eq_false_iff_ne]; omega
    clear hr
    go_enter Try.func27, Try.ntmps27
    go_upto_region 3 with (fail)
    generalize (w.alloc (.cells (pgC A c B d p) 25)).alloc (.cells (inC x) 48) = w2 at *
    have x0 := (HL1.out.cell 0).trans (show _ = some (Value.int .i64 x.op) from rfl)
    have x3 := (HL1.out.cell 3).trans (show _ = some (Value.int .i64 x.c) from rfl)
    have x5 := (HL1.out.cell 5).trans (show _ = some (Value.int .u64 (x.k : Int)) from rfl)
    have hx := HL1.out.lt
    have c0 := (HL0.out.cell 0).trans (show _ = some (Value.slice A p.rs.length c) from rfl)
    have hx2 := HL0.out.lt
    go_wp2
    go_quiet (fail)
    go_wp2
    go_ret
    exact ⟨ret_int (by rw [HE9.out]; rfl), below_drewN HB0.out _⟩
  have a15 : decide ((15 : Int) ≤ x.op) = true := by simp; omega
  by_cases h2 : x.op ≤ 17
  · have HE8 := Lib.hid (instrE_jump (rs := p.rs) (n := n) hr (by omega) h2)
    have a17 : decide (x.op ≤ 17) = true := by simp; omega
    have a18 : decide ((18 : Int) ≤ x.op) = false := by simp; omega
    have a19 : (x.op == 19) = false := by rw [beq_eq_false_iff_ne]; omega
    clear hr
    by_cases h3 : n < x.k
    · have HE9 := Lib.hid (HE8.out.trans (if_pos h3))
      have ak : decide ((n : Int) < (x.k : Int)) = true := by simp; omega
      have ak2 : decide (n < x.k) = true := by simpa using h3
      clear HE8 h3
      go_enter Try.func27, Try.ntmps27
      go_wp2
      go_ret
      exact ⟨ret_int (by rw [HE9.out]; rfl), HB0.out⟩
    · have HE9 := Lib.hid (HE8.out.trans (if_neg h3))
      have ak : decide ((n : Int) < (x.k : Int)) = false := by simp; omega
      have ak2 : decide (n < x.k) = false := by simpa using h3
      clear HE8 h3
      go_enter Try.func27, Try.ntmps27
      go_upto_region 3 with (fail)
      generalize (w.alloc (.cells (pgC A c B d p) 25)).alloc (.cells (inC x) 48) = w2 at *
      have x0 := (HL1.out.cell 0).trans (show _ = some (Value.int .i64 x.op) from rfl)
      have x3 := (HL1.out.cell 3).trans (show _ = some (Value.int .i64 x.c) from rfl)
      have x5 := (HL1.out.cell 5).trans (show _ = some (Value.int .u64 (x.k : Int)) from rfl)
      have hx := HL1.out.lt
      have c0 := (HL0.out.cell 0).trans (show _ = some (Value.slice A p.rs.length c) from rfl)
      have hx2 := HL0.out.lt
      go_wp2
      go_quiet (fail)
      go_wp2
      go_ret
      exact ⟨ret_int (by rw [HE9.out]; rfl), below_drewN HB0.out _⟩
  have a17 : decide (x.op ≤ 17) = false := by simp; omega
  have a18 : decide ((18 : Int) ≤ x.op) = true := by simp; omega
  by_cases h3 : 20 < x.op
  · have HE9 := Lib.hid (instrE_other (rs := p.rs) (n := n) hr (by omega))
    have a20 : decide (x.op ≤ 20) = false := by simp; omega
    have a19 : (x.op == 19) = false := by rw [beq_eq_false_iff_ne]; omega
    clear hr
    go_enter Try.func27, Try.ntmps27
    go_upto_region 3 with (fail)
    generalize (w.alloc (.cells (pgC A c B d p) 25)).alloc (.cells (inC x) 48) = w2 at *
    have x0 := (HL1.out.cell 0).trans (show _ = some (Value.int .i64 x.op) from rfl)
    have x3 := (HL1.out.cell 3).trans (show _ = some (Value.int .i64 x.c) from rfl)
    have x5 := (HL1.out.cell 5).trans (show _ = some (Value.int .u64 (x.k : Int)) from rfl)
    have hx := HL1.out.lt
    have c0 := (HL0.out.cell 0).trans (show _ = some (Value.slice A p.rs.length c) from rfl)
    have hx2 := HL0.out.lt
    go_wp2
    go_quiet (fail)
    go_wp2
    go_ret
    exact ⟨ret_int (by rw [HE9.out]; rfl), below_drewN HB0.out _⟩
  have a20 : decide (x.op ≤ 20) = true := by simp; omega
  obtain ⟨⟨hc0, hc7⟩, hE⟩ := instrE_ring (rs := p.rs) (n := n) hr (by omega) (by omega)
  have HE8 := Lib.hid hE
  clear hr hE
  by_cases h4 : (p.rs.length : Int) ≤ x.c
  · have HE9 := Lib.hid (HE8.out.trans (if_pos h4))
    have ac : decide ((p.rs.length : Int) ≤ x.c) = true := by simpa using h4
    clear HE8
    go_enter Try.func27, Try.ntmps27
    go_upto_region 3 with (fail)
    generalize (w.alloc (.cells (pgC A c B d p) 25)).alloc (.cells (inC x) 48) = w2 at *
    have x0 := (HL1.out.cell 0).trans (show _ = some (Value.int .i64 x.op) from rfl)
    have x3 := (HL1.out.cell 3).trans (show _ = some (Value.int .i64 x.c) from rfl)
    have x5 := (HL1.out.cell 5).trans (show _ = some (Value.int .u64 (x.k : Int)) from rfl)
    have hx := HL1.out.lt
    have c0 := (HL0.out.cell 0).trans (show _ = some (Value.slice A p.rs.length c) from rfl)
    have hx2 := HL0.out.lt
    go_wp2
    go_quiet (fail)
    go_wp2
    go_ret
    exact ⟨ret_int (by rw [HE9.out]; rfl), below_drewN HB0.out _⟩
  have HE7 := Lib.hid (HE8.out.trans (if_neg h4))
  have ac : decide ((p.rs.length : Int) ≤ x.c) = false := by simpa using h4
  clear HE8
  by_cases h5 : x.op = 19
  · have a19 : (x.op == 19) = true := by simpa using h5
    obtain ⟨r, hr⟩ : ∃ r, p.rs[x.c.toNat]? = some r := ⟨_, List.getElem?_eq_getElem (by omega)⟩
    have hgd : p.rs.getD x.c.toNat default = r := by rw [List.getD_eq_getElem?_getD, hr]; rfl
    have hro := of_decide_eq_true (HO.out r (List.mem_of_getElem? hr))
    obtain ⟨b, off, rfl, hbl, hg⟩ := RisAt.at_ (HH.out.later HB0.out) hr
    have g2 := hg 2 _ (by decide) rfl
    have hr1 : 1 ≤ r.r := by omega
    have hr8 : r.r ≤ 8 := by omega
    have hcl2 : x.c < (p.rs.length : Int) := by omega
    have e6 : IntKind.u64.wrap r.r = r.r := IntWalk.u64_in _ (by omega)
    rw [hgd] at HE7
    clear hg hro hgd hr hbl
    by_cases hrk : r.r ≤ (x.k : Int)
    · have HE9 := Lib.hid (HE7.out.trans (if_pos ⟨h5, hrk⟩))
      have e5 : decide (r.r ≤ (x.k : Int)) = true := by simpa using hrk
      clear h5 HE7
      go_enter Try.func27, Try.ntmps27
      go_upto_region 3 with (fail)
      generalize (w.alloc (.cells (pgC (some ⟨b, off, none⟩) c B d p) 25)).alloc (.cells (inC x) 48) = w2 at *
      have x0 := (HL1.out.cell 0).trans (show _ = some (Value.int .i64 x.op) from rfl)
      have x3 := (HL1.out.cell 3).trans (show _ = some (Value.int .i64 x.c) from rfl)
      have x5 := (HL1.out.cell 5).trans (show _ = some (Value.int .u64 (x.k : Int)) from rfl)
      have hx := HL1.out.lt
      have c0 := (HL0.out.cell 0).trans (show _ = some (Value.slice (some ⟨b, off, none⟩) p.rs.length c) from rfl)
      have hx2 := HL0.out.lt
      go_wp2
      go_quiet (fail)
      go_wp2
      go_ret
      exact ⟨ret_int (by rw [HE9.out]; rfl), below_drewN HB0.out _⟩
    · have HE9 := Lib.hid (HE7.out.trans (if_neg (fun h => hrk h.2)))
      have e5 : decide (r.r ≤ (x.k : Int)) = false := by simpa using hrk
      clear h5 HE7
      go_enter Try.func27, Try.ntmps27
      go_upto_region 3 with (fail)
      generalize (w.alloc (.cells (pgC (some ⟨b, off, none⟩) c B d p) 25)).alloc (.cells (inC x) 48) = w2 at *
      have x0 := (HL1.out.cell 0).trans (show _ = some (Value.int .i64 x.op) from rfl)
      have x3 := (HL1.out.cell 3).trans (show _ = some (Value.int .i64 x.c) from rfl)
      have x5 := (HL1.out.cell 5).trans (show _ = some (Value.int .u64 (x.k : Int)) from rfl)
      have hx := HL1.out.lt
      have c0 := (HL0.out.cell 0).trans (show _ = some (Value.slice (some ⟨b, off, none⟩) p.rs.length c) from rfl)
      have hx2 := HL0.out.lt
      go_wp2
      go_quiet (fail)
      go_wp2
      go_ret
      exact ⟨ret_int (by rw [HE9.out]; rfl), below_drewN HB0.out _⟩
  · have HE9 := Lib.hid (HE7.out.trans (if_neg (fun h => h5 h.1)))
    have a19 : (x.op == 19) = false := by simpa using h5
    clear h5 HE7
    go_enter Try.func27, Try.ntmps27
    go_upto_region 3 with (fail)
    generalize (w.alloc (.cells (pgC A c B d p) 25)).alloc (.cells (inC x) 48) = w2 at *
    have x0 := (HL1.out.cell 0).trans (show _ = some (Value.int .i64 x.op) from rfl)
    have x3 := (HL1.out.cell 3).trans (show _ = some (Value.int .i64 x.c) from rfl)
    have x5 := (HL1.out.cell 5).trans (show _ = some (Value.int .u64 (x.k : Int)) from rfl)
    have hx := HL1.out.lt
    have c0 := (HL0.out.cell 0).trans (show _ = some (Value.slice A p.rs.length c) from rfl)
    have hx2 := HL0.out.lt
    go_wp2
    go_quiet (fail)
    go_wp2
    go_ret
    exact ⟨ret_int (by rw [HE9.out]; rfl), below_drewN HB0.out _⟩
end Go.Proofs.Yteecfffgigaomaa
