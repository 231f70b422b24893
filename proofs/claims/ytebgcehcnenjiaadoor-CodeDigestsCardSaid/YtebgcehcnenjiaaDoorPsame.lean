/-
  Two programs that are the same (layer 9): the document's Same.
-/
import Derived.Test.YtebgcehcnenjiaaDoorCpr
import Derived.Laws.StructEq
namespace Go.Proofs.YtebgcehcnenjiaaDoor
open Go.RowKit
set_option linter.unusedVariables false
set_option linter.unusedSimpArgs false
instance : DecidableEq Ri := fun a b => if h : a.k = b.k ∧ a.c = b.c ∧ a.r = b.r then isTrue (by cases a; cases b; simp_all) else isFalse (fun e => h (by rw [e]; simp))
instance : DecidableEq In := fun a b => if h : a.op = b.op ∧ a.a = b.a ∧ a.b = b.b ∧ a.c = b.c ∧ a.d = b.d ∧ a.k = b.k then isTrue (by cases a; cases b; simp_all) else isFalse (fun e => h (by rw [e]; simp))
theorem riHeld : Tryd.prog.stoodInHeld 67 = false := by kernel_rfl
theorem riGuard : Tryd.prog.eqGuardType Tryd.prog.depth 67 = false := by kernel_rfl
theorem inHeld : Tryd.prog.stoodInHeld 24 = false := by kernel_rfl
theorem inGuard : Tryd.prog.eqGuardType Tryd.prog.depth 24 = false := by kernel_rfl
theorem riNeq (x y : Ri) (w : World) : (binOp .neq 67 (.agg #[.int .i64 x.k, .int .i64 x.c, .int .i64 x.r]) (.agg #[.int .i64 y.k, .int .i64 y.c, .int .i64 y.r])).run Tryd.prog w = .ok (.bool (!(decide (x = y)))) w := by
  have h1 := riHeld
  rw [run_neq_struct, run_equalIn_agg w 9999 _ _ _ (by simp only [Program.fieldsOf, Tryd.underlying67]) h1]
  simp only [Program.fieldsOf, Tryd.underlying67]
  obtain ⟨a, b, c⟩ := x
  obtain ⟨a', b', c'⟩ := y
  simp [go_sem]
  by_cases e1 : a = a'
  · by_cases e2 : b = b'
    · by_cases e3 : c = c' <;> simp [e1, e2, e3]
    · simp [e1, e2]; try omega
  · simp [e1]; try omega
theorem inNeq (x y : In) (w : World) : (binOp .neq 24 (.agg (inC x)) (.agg (inC y))).run Tryd.prog w = .ok (.bool (!(decide (x = y)))) w := by
  have h1 := inHeld
  rw [run_neq_struct, run_equalIn_agg w 9999 _ _ _ (by simp only [Program.fieldsOf, Tryd.underlying24]) h1]
  simp only [Program.fieldsOf, Tryd.underlying24]
  obtain ⟨a, b, c, d, e, f⟩ := x
  obtain ⟨a', b', c', d', e', f'⟩ := y
  simp [go_sem]
  by_cases e1 : a = a'
  · by_cases e2 : b = b'
    · by_cases e3 : c = c'
      · by_cases e4 : d = d'
        · by_cases e5 : e = e'
          · by_cases e6 : f = f'
            · simp [e1, e2, e3, e4, e5, e6]
            · simp [e1, e2, e3, e4, e5, e6]; try omega
          · simp [e1, e2, e3, e4, e5]; try omega
        · simp [e1, e2, e3, e4]; try omega
      · simp [e1, e2, e3]; try omega
    · simp [e1, e2]; try omega
  · simp [e1]; try omega
def sameB (a b : Pg) : Bool := decide (a.rs = b.rs ∧ a.ts = b.ts)
theorem same_not {a b : Pg} (h : ¬ (a.rs = b.rs ∧ a.ts = b.ts)) : sameB a b = false := decide_eq_false h
set_option maxHeartbeats 8000000 in
set_option maxRecDepth 100000 in
theorem rfSame (a b : Pg) (A : Option Addr) (c : Nat) (B : Option Addr) (d : Nat) (A' : Option Addr) (c' : Nat) (B' : Option Addr) (d' : Nat) (w : World) (h : PgAt w A c B d a) (k : PgAt w A' c' B' d' b) :
    Calls Tryd.prog 27 #[.agg (pgC A c B d a), .agg (pgC A' c' B' d' b)] w fun e w' => e = .returned (.bool (sameB a b)) ∧ Below w.heap.size w w' := by
  obtain ⟨hc1, hc2⟩ := seq_form h.1
  obtain ⟨hd1, hd2⟩ := h.2.form
  obtain ⟨hc3, hc4⟩ := seq_form k.1
  obtain ⟨hd3, hd4⟩ := k.2.form
  have hb0 : Below w.heap.size w ((w.alloc (.cells (pgC A c B d a) 35)).alloc (.cells (pgC A' c' B' d' b) 35)) := ((Below.refl _ _).alloc (Nat.le_refl _) _).alloc (by simp) _
  have l0 := (Lies.made w 35 (pgC A c B d a)).alloc (.cells (pgC A' c' B' d' b) 35)
  have l1 := Lies.made (w.alloc (.cells (pgC A c B d a) 35)) 35 (pgC A' c' B' d' b)
  rw [World.size_alloc] at l1
  have HH := Lib.hid (h.later hb0)
  have HK := Lib.hid (k.later hb0)
  have HB0 := Lib.hid hb0
  have HL0 := Lib.hid l0
  have HL1 := Lib.hid l1
  have HNO := Lib.hid (@same_not a b)
  clear h k hb0 l0 l1
  go_enter Tryd.func27, Tryd.ntmps27
  go_upto_region 1 with (fail)
  generalize (w.alloc (.cells (pgC A c B d a) 35)).alloc (.cells (pgC A' c' B' d' b) 35) = w1 at *
  have c0 := (HL0.out.cell 0).trans (show _ = some (Value.slice A a.rs.length c) from rfl)
  have c1 := (HL0.out.cell 1).trans (show _ = some (Value.slice B a.ts.length d) from rfl)
  have cl := HL0.out.lt
  have d0 := (HL1.out.cell 0).trans (show _ = some (Value.slice A' b.rs.length c') from rfl)
  have d1 := (HL1.out.cell 1).trans (show _ = some (Value.slice B' b.ts.length d') from rfl)
  have dl := HL1.out.lt
  clear HL0 HL1
  by_cases h1 : a.rs.length = b.rs.length
  case neg =>
    have e1 : ((a.rs.length : Int) != (b.rs.length : Int)) = true := by rw [bne_iff_ne]; omega
    have HE := Lib.hid (HNO.out (fun e => h1 (by rw [e.1])))
    clear h1 HNO
    go_wp2
    go_ret
    exact ⟨ret_bool (by rw [HE.out]), HB0.out⟩
  have e1 : ((a.rs.length : Int) != (b.rs.length : Int)) = false := by rw [h1]; simp
  by_cases h2 : a.ts.length = b.ts.length
  case neg =>
    have e2 : ((a.ts.length : Int) != (b.ts.length : Int)) = true := by rw [bne_iff_ne]; omega
    have HE := Lib.hid (HNO.out (fun e => h2 (by rw [e.2])))
    clear h1 h2 HNO
    go_wp2
    go_ret
    exact ⟨ret_bool (by rw [HE.out]), HB0.out⟩
  have e2 : ((a.ts.length : Int) != (b.ts.length : Int)) = false := by rw [h2]; simp
  have H1 := Lib.hid h1
  have H2 := Lib.hid h2
  clear h1 h2
  go_wp2_with fail
  go_loopw [5] (fun u wr => ∃ i : Nat, i ≤ a.rs.length ∧ u = .int .i64 i ∧ Hid (a.rs.take i = b.rs.take i) ∧ ∃ n, wr = w1.drewN n) (fun u _ => a.rs.length - (intOf u).toNat)
  case atStart => exact ⟨0, by omega, rfl, (by show _ = _; rfl), 0, rfl⟩
  case round =>
    obtain ⟨i, hi, rfl, htk, nd, rfl⟩ := hrel
    by_cases hlt : i < a.rs.length
    · have hii : (i : Int) < (a.rs.length : Int) := by omega
      have hii2 : (i : Int) < (b.rs.length : Int) := by have := H1.out; omega
      obtain ⟨x, hx⟩ : ∃ x, a.rs[i]? = some x := ⟨_, List.getElem?_eq_getElem hlt⟩
      obtain ⟨y, hy⟩ : ∃ y, b.rs[i]? = some y := ⟨_, List.getElem?_eq_getElem (by have := H1.out; omega)⟩
      obtain ⟨b1, o1, rfl, gl1, g1⟩ := RisAt.at_ HH.out.1 hx
      obtain ⟨b2, o2, rfl, gl2, g2⟩ := RisAt.at_ HK.out.1 hy
      have x0 := g1 0 _ (by decide) rfl
      have x1 := g1 1 _ (by decide) rfl
      have x2 := g1 2 _ (by decide) rfl
      have y0 := g2 0 _ (by decide) rfl
      have y1 := g2 1 _ (by decide) rfl
      have y2 := g2 2 _ (by decide) rfl
      rw [Nat.add_zero] at x0 y0
      have hg := riGuard
      have hq := riNeq x y
      by_cases hxy : x = y
      · have HT := Lib.hid (show a.rs.take (i + 1) = b.rs.take (i + 1) by rw [List.take_add_one, List.take_add_one, htk.out, hx, hy, hxy])
        rw [decide_eq_true hxy] at hq
        clear g1 g2 hx hy htk hxy
        go_wp2_with fail
        go_quiet (fail)
        go_wp2
        go_roundw
        case rel => exact ⟨i + 1, by omega, by go_num, HT, _, rfl⟩
        case measure => simp [intOf]; omega
      · have HE := Lib.hid (HNO.out (fun e => hxy (by have h3 := hx; rw [e.1, hy] at h3; exact (Option.some.inj h3).symm)))
        rw [decide_eq_false hxy] at hq
        clear g1 g2 hx hy htk hxy
        go_wp2_with fail
        go_quiet (fail)
        go_wp2
        go_ret
        exact ⟨ret_bool (by rw [HE.out]), below_drewN (below_drewN HB0.out nd) nq⟩
    · obtain rfl : i = a.rs.length := by omega
      have hrs := htk.out
      rw [List.take_of_length_le (Nat.le_refl _), List.take_of_length_le (by have := H1.out; omega)] at hrs
      have HRS := Lib.hid hrs
      clear htk hrs
      go_wp2_with fail
      go_loopw [6] (fun u wr => ∃ t : Nat, t ≤ a.ts.length ∧ u = .int .i64 t ∧ Hid (a.ts.take t = b.ts.take t) ∧ ∃ n, wr = w1.drewN n) (fun u _ => a.ts.length - (intOf u).toNat)
      case atStart => exact ⟨0, by omega, rfl, (by show _ = _; rfl), _, rfl⟩
      case round =>
        obtain ⟨t, ht, rfl, htk, nd, rfl⟩ := hrel
        by_cases hlt : t < a.ts.length
        · have hii : (t : Int) < (a.ts.length : Int) := by omega
          have hii2 : (t : Int) < (b.ts.length : Int) := by have := H2.out; omega
          obtain ⟨l, hl⟩ : ∃ l, a.ts[t]? = some l := ⟨_, List.getElem?_eq_getElem hlt⟩
          obtain ⟨m, hm⟩ : ∃ m, b.ts[t]? = some m := ⟨_, List.getElem?_eq_getElem (by have := H2.out; omega)⟩
          obtain ⟨b1, o1, X1, n1, rfl, g1, hil⟩ := HH.out.2.at_ hl
          obtain ⟨b2, o2, X2, n2, rfl, g2, him⟩ := HK.out.2.at_ hm
          have gl1 := World.block_lt_of_cell? _ _ g1
          have gl2 := World.block_lt_of_cell? _ _ g2
          obtain ⟨hf1, hf2⟩ := seq_form hil
          obtain ⟨hf3, hf4⟩ := seq_form him
          have HIL := Lib.hid hil
          have HIM := Lib.hid him
          have HLX := Lib.hid hl
          have HMX := Lib.hid hm
          have HTN := Lib.hid (fun (e : l = m) => show a.ts.take (t + 1) = b.ts.take (t + 1) by rw [List.take_add_one, List.take_add_one, htk.out, hl, hm, e])
          have HNE := Lib.hid (fun (e : ¬ l = m) => HNO.out (fun q => e (by have h3 := hl; rw [q.2, hm] at h3; exact (Option.some.inj h3).symm)))
          clear hil him hl hm htk
          by_cases hln : l.length = m.length
          case neg =>
            have e5 : ((l.length : Int) != (m.length : Int)) = true := by rw [bne_iff_ne]; omega
            have HE := Lib.hid (HNE.out (fun e => hln (by rw [e])))
            clear hln
            go_wp2_with fail
            go_quiet (fail)
            go_wp2
            go_ret
            exact ⟨ret_bool (by rw [HE.out]), below_drewN (below_drewN HB0.out nd) nq⟩
          have e5 : ((l.length : Int) != (m.length : Int)) = false := by rw [hln]; simp
          have HLN := Lib.hid hln
          clear hln
          go_wp2_with fail
          go_quiet (fail)
          go_wp2_with fail
          go_loopw [7] (fun u wr => ∃ k : Nat, k ≤ l.length ∧ u = .int .i64 k ∧ Hid (l.take k = m.take k) ∧ ∃ n, wr = w1.drewN n) (fun u _ => l.length - (intOf u).toNat)
          case atStart => exact ⟨0, by omega, rfl, (by show _ = _; rfl), _, World.drewN_drewN _ _ _⟩
          case round =>
            obtain ⟨k, hk, rfl, htk, nd2, rfl⟩ := hrel
            by_cases hkl : k < l.length
            · have hkk : (k : Int) < (l.length : Int) := by omega
              have hkk2 : (k : Int) < (m.length : Int) := by have := HLN.out; omega
              obtain ⟨x, hx⟩ : ∃ x, l[k]? = some x := ⟨_, List.getElem?_eq_getElem hkl⟩
              obtain ⟨y, hy⟩ : ∃ y, m[k]? = some y := ⟨_, List.getElem?_eq_getElem (by have := HLN.out; omega)⟩
              obtain ⟨b3, o3, rfl, gl3, g3⟩ := InsAt.at_ HIL.out hx
              obtain ⟨b4, o4, rfl, gl4, g4⟩ := InsAt.at_ HIM.out hy
              have x0 := g3 0 _ (by decide) rfl
              have x1 := g3 1 _ (by decide) rfl
              have x2 := g3 2 _ (by decide) rfl
              have x3 := g3 3 _ (by decide) rfl
              have x4 := g3 4 _ (by decide) rfl
              have x5 := g3 5 _ (by decide) rfl
              have y0 := g4 0 _ (by decide) rfl
              have y1 := g4 1 _ (by decide) rfl
              have y2 := g4 2 _ (by decide) rfl
              have y3 := g4 3 _ (by decide) rfl
              have y4 := g4 4 _ (by decide) rfl
              have y5 := g4 5 _ (by decide) rfl
              rw [Nat.add_zero] at x0 y0
              have hg := inGuard
              have hq := inNeq x y
              by_cases hxy : x = y
              · have HT := Lib.hid (show l.take (k + 1) = m.take (k + 1) by rw [List.take_add_one, List.take_add_one, htk.out, hx, hy, hxy])
                rw [decide_eq_true hxy] at hq
                clear g3 g4 hx hy htk hxy
                go_wp2_with fail
                go_quiet (fail)
                go_wp2
                go_roundw
                case rel => exact ⟨k + 1, by omega, by go_num, HT, _, rfl⟩
                case measure => simp [intOf]; omega
              · have HE := Lib.hid (HNE.out (fun e => hxy (by have h3 := hx; rw [e, hy] at h3; exact (Option.some.inj h3).symm)))
                rw [decide_eq_false hxy] at hq
                clear g3 g4 hx hy htk hxy
                go_wp2_with fail
                go_quiet (fail)
                go_wp2
                go_ret
                exact ⟨ret_bool (by rw [HE.out]), below_drewN (below_drewN HB0.out nd2) nq⟩
            · obtain rfl : k = l.length := by omega
              have hlm := htk.out
              rw [List.take_of_length_le (Nat.le_refl _), List.take_of_length_le (by have := HLN.out; omega)] at hlm
              have HT := Lib.hid (HTN.out hlm)
              clear htk hlm
              go_wp2
              go_roundw
              case rel => exact ⟨t + 1, by omega, by go_num, HT, _, rfl⟩
              case measure => simp [intOf]; omega
        · obtain rfl : t = a.ts.length := by omega
          have hts := htk.out
          rw [List.take_of_length_le (Nat.le_refl _), List.take_of_length_le (by have := H2.out; omega)] at hts
          have HE : Hid (sameB a b = true) := decide_eq_true ⟨HRS.out, hts⟩
          clear htk hts
          go_wp2
          go_ret
          exact ⟨ret_bool (by rw [HE.out]), below_drewN HB0.out nd⟩
end Go.Proofs.YtebgcehcnenjiaaDoor
