/-
  The document's Right of an instruction: the same as the code's.
-/
import Derived.Test.YtiegmpjoiekekaaRfn
namespace Go.Proofs.Ytiegmpjoiekekaa
open Go.RowKit
set_option linter.unusedVariables false
set_option linter.unusedSimpArgs false
def lvA (x : In) : Nat → Int := fun j => [x.a, x.b, x.c, x.d].getD j 0
def glA (op : Int) : Nat → Int := fun j => [(gL op).1, (gL op).2.1, (gL op).2.2.1, (gL op).2.2.2].getD j 0
theorem rightB_all (x : In) (h : opB x.op = true) : rightB x = (kB x && (List.range 4).all fun j => wB (lvA x j) (glA x.op j)) := by
  unfold rightB
  rw [h, Bool.true_and]
  have : (List.range 4).all (fun j => wB (lvA x j) (glA x.op j)) = (wB x.a (gL x.op).1 && (wB x.b (gL x.op).2.1 && (wB x.c (gL x.op).2.2.1 && wB x.d (gL x.op).2.2.2))) := by
    show ([0, 1, 2, 3] : List Nat).all _ = _
    simp [lvA, glA]
  rw [this]
  cases wB x.a (gL x.op).1 <;> cases wB x.b (gL x.op).2.1 <;> cases wB x.c (gL x.op).2.2.1 <;> cases wB x.d (gL x.op).2.2.2 <;> cases kB x <;> rfl
theorem rightB_not {x : In} (h : opB x.op = true) {j : Nat} (hj : j < 4) (hw : wB (lvA x j) (glA x.op j) = false) : rightB x = false := by
  rw [rightB_all x h]
  cases hr : (List.range 4).all fun j => wB (lvA x j) (glA x.op j) with
  | false => simp
  | true =>
    have := List.all_eq_true.1 hr j (List.mem_range.2 hj)
    rw [hw] at this; cases this
set_option maxHeartbeats 8000000 in
set_option maxRecDepth 100000 in
theorem rfRight (x : In) (w : World) (hx : inOk x) : Calls Try.prog 28 #[.agg (inC x)] w fun e w' => e = .returned (.bool (rightB x)) ∧ Below w.heap.size w w' := by
  have hb0 : Below w.heap.size w (w.alloc (.cells (inC x) 50)) := (Below.refl _ _).alloc (Nat.le_refl _) _
  have l0 := Lies.made w 50 (inC x)
  have HB0 := Lib.hid hb0
  have HL0 := Lib.hid l0
  clear hb0 l0
  by_cases hno : opB x.op = false
  · have HF := Lib.hid (fun w => form_none x.op w hno)
    have HE : Hid (rightB x = false) := by show rightB x = false; unfold rightB; rw [hno, Bool.false_and]
    clear hno
    go_enter Try.func28, Try.ntmps28
    go_wp2_with fail
    generalize w.alloc (.cells (inC x) 50) = w1 at *
    refine (HF.out _).mono ?_
    rintro e w2 ⟨rfl, rfl⟩
    go_wp2
    go_quiet (fail)
    go_wp2
    go_ret
    exact ⟨ret_bool (by rw [HE.out]), below_drewN HB0.out _⟩
  have hyes : opB x.op = true := by simpa using hno
  obtain ⟨m5, m4, m0, m1, m2, m3⟩ := form_yes hyes
  have HF := Lib.hid (fun w => form_lit x.op w (op_lit hyes))
  have HYES := Lib.hid hyes
  have HALL := Lib.hid (rightB_all x hyes)
  have hs5 : (⟨(formL x.op).toArray⟩ : ByteArray).size = 5 := by show (formL x.op).toArray.size = 5; simpa using m5
  have hget : ∀ (k : Nat) (h : k < (⟨(formL x.op).toArray⟩ : ByteArray).size), ((⟨(formL x.op).toArray⟩ : ByteArray)[k]'h) = (formL x.op).getD k 0 := fun k h => by
    have h2 : k < (formL x.op).length := by rw [hs5] at h; omega
    rw [List.getD_eq_getElem?_getD, List.getElem?_eq_getElem h2]
    rfl
  have HM4 : Hid (∀ (h : 4 < (⟨(formL x.op).toArray⟩ : ByteArray).size), mostN ((⟨(formL x.op).toArray⟩ : ByteArray)[4]'h).toNat = gK x.op) := fun h => by rw [hget]; exact m4
  have HMK : Hid (∀ (k : Nat) (h : k < (⟨(formL x.op).toArray⟩ : ByteArray).size), k < 4 → ((mostN ((⟨(formL x.op).toArray⟩ : ByteArray)[k]'h).toNat : Nat) : Int) = glA x.op k) := fun k h hk => by
    rw [hget]
    match k, hk with
    | 0, _ => exact m0
    | 1, _ => exact m1
    | 2, _ => exact m2
    | 3, _ => exact m3
  have HLV : Hid (∀ k, k < 4 → i64 (lvA x k)) := fun k hk => by
    match k, hk with
    | 0, _ => exact hx.2.1
    | 1, _ => exact hx.2.2.1
    | 2, _ => exact hx.2.2.2.1
    | 3, _ => exact hx.2.2.2.2.1
  have hkk := hx.2.2.2.2.2
  clear hget m5 m4 m0 m1 m2 m3 hno hyes hx
  generalize (⟨(formL x.op).toArray⟩ : ByteArray) = s at *
  have hse : s.toList.isEmpty = false := by
    have hl : s.toList.length = 5 := by rw [ByteArray.toList_eq]; simpa using hs5
    cases hq : s.toList with
    | nil => rw [hq] at hl; cases hl
    | cons _ _ => rfl
  have hse2 : (s.toList == []) = false := by
    cases hq : s.toList with
    | nil => rw [hq] at hse; cases hse
    | cons _ _ => rfl
  go_enter Try.func28, Try.ntmps28
  go_wp2_with fail
  generalize w.alloc (.cells (inC x) 50) = w1 at *
  refine (HF.out _).mono ?_
  rintro e w2 ⟨rfl, rfl⟩
  have x1 := (HL0.out.cell 1).trans (show _ = some (Value.int .i64 x.a) from rfl)
  have x2 := (HL0.out.cell 2).trans (show _ = some (Value.int .i64 x.b) from rfl)
  have x3 := (HL0.out.cell 3).trans (show _ = some (Value.int .i64 x.c) from rfl)
  have x4 := (HL0.out.cell 4).trans (show _ = some (Value.int .i64 x.d) from rfl)
  have x5 := (HL0.out.cell 5).trans (show _ = some (Value.int .u64 (x.k : Int)) from rfl)
  have hxl := HL0.out.lt
  have h45 : 4 < s.size := by omega
  have hc4 := Lib.hid (HM4.out h45)
  clear HF HM4
  by_cases hk : kB x = false
  · have HE : Hid (rightB x = false) := by show rightB x = false; rw [HALL.out, hk, Bool.false_and]
    have hk := of_decide_eq_false hk
    have HC : Hid (decide (((mostN (s[4]'h45).toNat : Nat) : Int) < (x.k : Int)) = true) := by show _ = _; rw [hc4.out]; simp; omega
    have hcc : decide (mostN (s[4]'h45).toNat < x.k) = true := by simpa using HC.out
    clear HALL hk hc4 HC
    go_wp2
    go_quiet ((go_at_call 47; exact quiet_same3 ((most_any _ _)) ⟨_, rfl⟩))
    go_wp2
    go_ret
    exact ⟨ret_bool (by rw [HE.out]), below_drewN HB0.out _⟩
  have hkt : kB x = true := by simpa using hk
  rw [hkt, Bool.true_and] at HALL
  have hkl := of_decide_eq_true hkt
  have HC : Hid (decide (((mostN (s[4]'h45).toNat : Nat) : Int) < (x.k : Int)) = false) := by show _ = _; rw [hc4.out]; simp; omega
  have hcc : decide (mostN (s[4]'h45).toNat < x.k) = false := by simpa using HC.out
  clear hk hkt hkl hc4 HC
  go_wp2
  go_quiet ((go_at_call 47; exact quiet_same3 ((most_any _ _)) ⟨_, rfl⟩))
  go_upto_region 5 with (fail)
  have hbq := below_drewN HB0.out nq
  have HB3 := Lib.hid (hbq.alloc hbq.size (.cells #[.int .i64 x.a, .int .i64 x.b, .int .i64 x.c, .int .i64 x.d] 3))
  have HL3 : Hid (Lies ((w1.drewN nq).alloc (.cells #[.int .i64 x.a, .int .i64 x.b, .int .i64 x.c, .int .i64 x.d] 3)) w1.heap.size 3 #[.int .i64 x.a, .int .i64 x.b, .int .i64 x.c, .int .i64 x.d]) := Lies.made (w1.drewN nq) _ _
  clear hbq HB0 HL0 x1 x2 x3 x4 x5 hxl hcc
  generalize (w1.drewN nq).alloc (.cells #[.int .i64 x.a, .int .i64 x.b, .int .i64 x.c, .int .i64 x.d] 3) = w3 at *
  generalize w1.heap.size = n2 at *
  go_wp2_with fail
  go_loopw [5] (fun u wr => ∃ k : Nat, k ≤ 4 ∧ u = .int .i64 k ∧ Hid (∀ j, j < k → wB (lvA x j) (glA x.op j) = true) ∧ Hid (Below w.heap.size w wr) ∧ Hid (Lies wr n2 3 #[.int .i64 x.a, .int .i64 x.b, .int .i64 x.c, .int .i64 x.d])) (fun u _ => 4 - (intOf u).toNat)
  case atStart => exact ⟨0, by omega, rfl, fun j hj => by omega, HB3, HL3⟩
  case round =>
    clear HB3 HL3
    obtain ⟨k, hk, rfl, hq, hbw, hlw⟩ := hrel
    by_cases hlt : k < 4
    · have hki : (k : Int) < 4 := by omega
      have hks : k < s.size := by omega
      have hidx : ∀ W : World, (Instr.index 9 (.string s) (.int .i64 (k : Int))).run Try.prog W = .ok (.int .u8 ((s[k]'hks).toNat : Int)) W := fun W => by
        rw [run_index_string _ _ _ _ _ Try.underlying9, dif_pos ⟨by omega, by omega⟩]
        simp only [Int.toNat_natCast]
      have hcell : wr.cell? ⟨n2, k, none⟩ = some (.int .i64 (lvA x k)) := by
        rw [hlw.out.cell]
        match k, hlt with
        | 0, _ => rfl
        | 1, _ => rfl
        | 2, _ => rfl
        | 3, _ => rfl
      obtain ⟨hv1, hv2⟩ := HLV.out k hlt
      have HMC := Lib.hid (HMK.out k hks hlt)
      have hl2 := hlw.out.lt
      obtain ⟨v, hv⟩ : ∃ v, lvA x k = v := ⟨_, rfl⟩
      obtain ⟨g, hg⟩ : ∃ g, glA x.op k = g := ⟨_, rfl⟩
      have HNO := Lib.hid (rightB_not (j := k) HYES.out hlt)
      rw [hg] at HMC
      rw [hv, hg] at HNO
      rw [hv] at hcell hv1 hv2
      have HV := Lib.hid hv
      have HG := Lib.hid hg
      clear hv hg
      by_cases hneg : v < 0
      · have e1 : decide (v < 0) = true := by simpa using hneg
        have HE : Hid (rightB x = false) := HNO.out (by unfold wB; rw [decide_eq_false (by omega)]; rfl)
        clear hneg HNO
        go_wp2
        go_quiet (fail)
        go_wp2
        go_ret
        exact ⟨ret_bool (by rw [HE.out]), below_drewN hbw.out _⟩
      have e1 : decide (v < 0) = false := by simpa using hneg
      obtain ⟨vn, rfl⟩ : ∃ vn : Nat, v = vn := ⟨v.toNat, by omega⟩
      have e3 : IntKind.u64.wrap (vn : Int) = (vn : Int) := IntWalk.u64_in _ (by omega)
      by_cases hgr : mostN (s[k]'hks).toNat < vn
      · have e2 : decide (mostN (s[k]'hks).toNat < vn) = true := by simpa using hgr
        have HE : Hid (rightB x = false) := HNO.out (by have := HMC.out; unfold wB; rw [decide_eq_false (p := (vn : Int) ≤ g) (by omega), Bool.and_false])
        clear hgr HNO hneg
        go_wp2
        go_quiet ((go_at_call 47; exact quiet_same3 ((most_any _ _)) ⟨_, rfl⟩))
        go_wp2
        go_ret
        exact ⟨ret_bool (by rw [HE.out]), below_drewN hbw.out _⟩
      have e2 : decide (mostN (s[k]'hks).toNat < vn) = false := by simpa using hgr
      have HQN : Hid (∀ j, j < k + 1 → wB (lvA x j) (glA x.op j) = true) := fun j hj => by
        by_cases e : j = k
        · subst e
          rw [HV.out, HG.out]
          have := HMC.out
          unfold wB
          rw [decide_eq_true (by omega), decide_eq_true (by omega)]; rfl
        · exact hq.out j (by omega)
      have HBN := Lib.hid (fun n => below_drewN hbw.out n)
      have HLN := Lib.hid hlw.out
      clear hq hbw hlw hneg hgr HNO
      go_wp2
      go_quiet ((go_at_call 47; exact quiet_same3 ((most_any _ _)) ⟨_, rfl⟩))
      go_wp2
      go_roundw
      case rel => exact ⟨k + 1, by omega, by go_num, HQN, HBN.out _, Lies.drewN HLN.out _⟩
      case measure => simp [intOf]; omega
    · obtain rfl : k = 4 := by omega
      have HE : Hid (rightB x = true) := by
        show rightB x = true
        rw [HALL.out, List.all_eq_true]
        exact fun j hj => hq.out j (List.mem_range.1 hj)
      go_wp2
      go_ret
      exact ⟨ret_bool (by rw [HE.out]), hbw.out⟩
end Go.Proofs.Ytiegmpjoiekekaa
