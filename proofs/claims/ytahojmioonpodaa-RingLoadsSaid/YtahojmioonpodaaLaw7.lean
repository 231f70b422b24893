import Derived.Test.YtahojmioonpodaaPlr
import Derived.Test.YtahojmioonpodaaLaw5
import Derived.Test.YtahojmioonpodaaRgref6
import Derived.Test.YtahojmioonpodaaRgstate2
import Derived.Deep.CutBlock
import Derived.Deep.DeepCutAuto
namespace Go.Proofs.Ytahojmioonpodaa
open Go.RowKit
set_option linter.unusedVariables false
set_option linter.unusedSimpArgs false
set_option maxHeartbeats 40000000 in
set_option maxRecDepth 100000 in
theorem plays_walk {g : Nat} (R0 : Rg) (ops : List Op5) (A0 : Option Addr) (c0 : Nat) (S0 : Addr) (s0 : Nat) (B : Option Addr) (cb : Nat) (w : World) (h : RgAt w g 83 [] [] R0)
    (hh : HdAt w R0 A0 c0) (hsl : SeqS w 3 (.slice (some S0) R0.L.length s0) R0.L.length (rowsOf slF R0.L)) (hA : HdFrom (g + 1) A0) (hS : g + 1 ≤ S0.block) (hs : SeqS w 4 (.slice B ops.length cb) ops.length (rowsOf op5F ops)) (hB : ops.length ≠ 0 → ∀ b o, B = some ⟨b, o, none⟩ → b ≠ g)
    (hok : ∀ x ∈ ops, op5Ok x) (hlen : ops.length ≤ 200) (ht : R0.tail + ops.length < 4611687117939015680) :
    Calls Try.prog 13 #[.pointer (some ⟨g, 0, none⟩), .agg #[.int .u64 (R0.cap : Int), .int .u64 (R0.tail : Int), .slice A0 R0.rd c0, .bool R0.cl, .slice (some S0) R0.L.length s0, .int .i64 (R0.rd : Int)], .slice B ops.length cb] w fun e w' => e = .returned (.bool true) ∧ Kept (oneRow g) w w' := by
  have hglt := h.lt
  have hbA : Below w.heap.size w (w.alloc (.cells (rgV R0.cap R0.tail A0 R0.rd c0 R0.cl (some S0) R0.L.length s0 R0.rd) 38)) := (Below.refl _ _).alloc (Nat.le_refl _) _
  have l0 := Lies.made w 38 (rgV R0.cap R0.tail A0 R0.rd c0 R0.cl (some S0) R0.L.length s0 R0.rd)
  have HST : Hid (StR w (w.alloc (.cells (rgV R0.cap R0.tail A0 R0.rd c0 R0.cl (some S0) R0.L.length s0 R0.rd) 38)) w.heap.size g R0 A0 c0 S0 s0) :=
    ⟨h.later hbA, l0, hh.later hbA, hsl.later hbA, Kept.alloc (oneRow g) w _⟩
  have HSO := Lib.hid hs
  have HOK := Lib.hid hok
  have HSB := Lib.hid hB
  have HHA : Hid (HdAway g w.heap.size A0) := fun c o e => by
    have h1 := hA c o e
    obtain ⟨x0, hx0⟩ : ∃ x, R0.h8[0]? = some x := ⟨_, List.getElem?_eq_getElem (by have := h.1.1; omega)⟩
    obtain ⟨b9, o9, e9, hb9, _⟩ := hh.get (Below.refl _ _) (show 0 < R0.rd from h.1.2.1.2.2.1) hx0
    rw [e] at e9
    simp only [Option.some.injEq, Addr.mk.injEq] at e9
    omega
  have HTT := Lib.hid ht
  clear h hh hsl l0 hbA hs hok hB hA ht
  go_enter Try.func13, Try.ntmps13
  go_wp2_with fail
  generalize w.alloc (.cells (rgV R0.cap R0.tail A0 R0.rd c0 R0.cl (some S0) R0.L.length s0 R0.rd) 38) = wA at *
  go_loopw [24] (fun u wr => ∃ (k : Nat) (R : Rg) (Ah : Option Addr) (ch : Nat) (As : Addr) (cs : Nat), k ≤ ops.length ∧ u = .int .i64 k ∧ R.tail ≤ R0.tail + k ∧ HdAway g w.heap.size Ah ∧ g + 1 ≤ As.block ∧
      Hid (StR w wr w.heap.size g R Ah ch As cs))
    (fun u _ => ops.length - (intOf u).toNat)
  case atStart => exact ⟨0, R0, A0, c0, S0, s0, by omega, rfl, by omega, HHA.out, hS, HST⟩
  case round =>
    clear HST HHA hS
    obtain ⟨k, R, Ah, ch, As, cs, hk, rfl, htl, hfh, hfs, hst⟩ := hrel
    by_cases hlt : k < ops.length
    · have hki : (k : Int) < (ops.length : Int) := by omega
      obtain ⟨x, hx⟩ : ∃ x, ops[k]? = some x := ⟨_, List.getElem?_eq_getElem hlt⟩
      have hxo := HOK.out x (List.mem_of_getElem? hx)
      obtain ⟨s1, s2, s3, s4, s5⟩ := hst.out
      have HFB : Hid (∀ c o, Ah = some ⟨c, o, none⟩ → c < wr.heap.size) := fun c o e => by
        obtain ⟨x0, hx0⟩ : ∃ x, R.h8[0]? = some x := ⟨_, List.getElem?_eq_getElem (by have := s1.1.1; omega)⟩
        obtain ⟨b9, o9, e9, hb9, _⟩ := s3.get (Below.refl _ _) (show 0 < R.rd from s1.1.2.1.2.2.1) hx0
        rw [e] at e9
        simp only [Option.some.injEq, Addr.mk.injEq] at e9
        omega
      have hsc := HSO.out.keptT s5 (fun b c o e => by
        simp only [Value.slice.injEq] at e
        exact HSB.out (by omega) b o e.1)
      obtain ⟨b, off, rfl, hbl, gx⟩ := SeqS.at_ op5F_length (by decide) hsc hx
      have x0 := gx 0 _ (by decide) rfl
      have x1 := gx 1 _ (by decide) rfl
      have x2 := gx 2 _ (by decide) rfl
      have x3 := gx 3 _ (by decide) rfl
      rw [Nat.add_zero] at x0
      have hbB : Below wr.heap.size wr (wr.alloc (.cells #[.int .i64 x.k, .int .i64 x.j, .int .u64 (x.t : Int), .int .u64 (x.v : Int)] 51)) := (Below.refl _ _).alloc (Nat.le_refl _) _
      have hps : PlR w (wr.alloc (.cells #[.int .i64 x.k, .int .i64 x.j, .int .u64 (x.t : Int), .int .u64 (x.v : Int)] 51)) w.heap.size g wr.heap.size x R Ah ch As cs :=
        ⟨s1.later hbB, s2.below hbB s2.lt, Lies.made _ _ _, s3.later hbB, s4.later hbB, kept_below_ s5 hbB⟩
      have hqg : wr.heap.size ≠ g := by have := s1.lt; omega
      have hwg : w.heap.size ≠ g := by omega
      have hgr : g < wr.heap.size := s1.lt
      have hwr : w.heap.size < wr.heap.size := s2.lt
      have HROK := Lib.hid s1.1
      have HPS := Lib.hid hps
      have HX := Lib.hid hxo
      have d0 := s2.cell 0
      have d1 := s2.cell 1
      have d2 := s2.cell 2
      have d3 := s2.cell 3
      have d4 := s2.cell 4
      have d5 := s2.cell 5
      simp only [List.getElem?_toArray, List.getElem?_cons_zero, List.getElem?_cons_succ] at d0 d1 d2 d3 d4 d5
      have HP := Lib.hid (ref13Publish (Ah := Ah) (ch := ch) (cs := cs) x.t 0 (g + 1) s1.1 hps.2.2.2.2.1 hxo.2.2.2.2.1 (by omega) hfs (by simp; omega))
      clear s1 s2 s3 s4 s5 hsc gx hx hxo hbB hps hbl hst
      go_wp2_with fail
      refine HP.out.mono ?_
      rintro e w2 ⟨b2, o2, cx2, rfl, _, _, hb2⟩
      have hp2 := HPS.out.later hb2
      have hbw2 := hp2.2.1.lt
      have hqw2 := hp2.2.2.1.lt
      have hp3 := hp2.later ((Below.refl _ _).alloc (Nat.le_refl _) (.cells #[.int .u64 (R.cap : Int), .int .u64 (R.tail : Int), .slice Ah R.rd ch, .bool R.cl, .slice (some ⟨b2, o2, none⟩) R.L.length cx2, .int .i64 (R.rd : Int)] 38))
      have hgw2 : g + 1 ≤ w2.heap.size := by have := hp2.1.lt; omega
      obtain ⟨d0', d1', d2', d3', d4', d5', d6'⟩ := hp2.boxed
      obtain ⟨y0, y1, y2, y3, y4⟩ := hp2.call
      have lnx := Lies.made w2 38 #[.int .u64 (R.cap : Int), .int .u64 (R.tail : Int), .slice Ah R.rd ch, .bool R.cl, .slice (some ⟨b2, o2, none⟩) R.L.length cx2, .int .i64 (R.rd : Int)]
      have HP := Lib.hid (ref13Release (ch := ch) (cs := cs) x.j x.t (g + 1) HROK.out hp3.2.2.2.1 hp3.2.2.2.2.1 HX.out.2.2.2.2.1 hfs (by simp; omega))
      have HPS3 := Lib.hid hp3
      have LNX := Lib.hid lnx
      clear d0 d1 d2 d3 d4 d5 hp2 hp3 hb2 HPS x0 x1 x2 x3 lnx
      go_wp2_with fail
      refine HP.out.mono ?_
      rintro e w3 ⟨b3, o3, cx3, rfl, _, _, hb3⟩
      clear d0' d1' d2' d3' d4' d5' d6' y0 y1 y2 y3 y4
      have hp4 := HPS3.out.later hb3
      have lnx := LNX.out.below hb3 LNX.out.lt
      have hp5 := hp4.later ((Below.refl _ _).alloc (Nat.le_refl _) (.cells #[.int .u64 (R.cap : Int), .int .u64 (R.tail : Int), .slice Ah R.rd ch, .bool R.cl, .slice (some ⟨b3, o3, none⟩) R.L.length cx3, .int .i64 (R.rd : Int)] 38))
      have lnx5 := lnx.alloc (.cells #[.int .u64 (R.cap : Int), .int .u64 (R.tail : Int), .slice Ah R.rd ch, .bool R.cl, .slice (some ⟨b3, o3, none⟩) R.L.length cx3, .int .i64 (R.rd : Int)] 38)
      obtain ⟨d0, d1, d2, d3, d4, d5, d6⟩ := hp4.boxed
      obtain ⟨y0, y1, y2, y3, y4⟩ := hp4.call
      have HP2 := Lib.hid (ref13Take (As := some As) (cs := cs) x.j HROK.out hp5.2.2.2.1)
      have HPS5 := Lib.hid hp5
      have LNX5 := Lib.hid lnx5
      clear hp4 hp5 hb3 HPS3 HP lnx lnx5 LNX
      go_wp2_with fail
      refine HP2.out.mono ?_
      rintro e w4 ⟨A4, cx4, rfl, _, _, hb4⟩
      clear d0 d1 d2 d3 d4 d5 d6 y0 y1 y2 y3 y4
      have hp6 := HPS5.out.later hb4
      have lnx := LNX5.out.below hb4 LNX5.out.lt
      have hp7 := hp6.later ((Below.refl _ _).alloc (Nat.le_refl _) (.cells #[.int .u64 (R.cap : Int), .int .u64 (R.tail : Int), .slice A4 R.rd cx4, .bool R.cl, .slice (some As) R.L.length cs, .int .i64 (R.rd : Int)] 38))
      have lnx7 := lnx.alloc (.cells #[.int .u64 (R.cap : Int), .int .u64 (R.tail : Int), .slice A4 R.rd cx4, .bool R.cl, .slice (some As) R.L.length cs, .int .i64 (R.rd : Int)] 38)
      have HPS7 := Lib.hid hp7
      have LNX7 := Lib.hid lnx7
      obtain ⟨d0, d1, d2, d3, d4, d5, d6⟩ := hp7.boxed
      obtain ⟨y0, y1, y2, y3, y4⟩ := hp7.call
      clear hp6 hp7 hb4 HPS5 HP2 lnx lnx7 LNX5
      go_upto_region 11 with (fail)
      generalize w4.alloc (.cells #[.int .u64 (R.cap : Int), .int .u64 (R.tail : Int), .slice A4 R.rd cx4, .bool R.cl, .slice (some As) R.L.length cs, .int .i64 (R.rd : Int)] 38) = w5 at *
      go_cut [63] (fun s63 wx => s63 = .bool (readsB R x.j) ∧ wx = w5)
      case first =>
        by_cases j0 : 0 ≤ x.j
        · by_cases j1 : x.j < (R.rd : Int)
          · have HRB : Hid (readsB R x.j = true) := decide_eq_true ⟨j0, j1⟩
            go_wp2
            go_meet
            exact ⟨by rw [HRB.out], rfl⟩
          · have HRB : Hid (readsB R x.j = false) := decide_eq_false (fun h => j1 h.2)
            go_wp2
            go_meet
            exact ⟨by rw [HRB.out], rfl⟩
        · have HRB : Hid (readsB R x.j = false) := decide_eq_false (fun h => j0 h.1)
          go_wp2
          go_meet
          exact ⟨by rw [HRB.out], rfl⟩
      case rest =>
        obtain ⟨rfl, rfl⟩ := hcut
        go_upto_if 63 with (fail)
        go_cut [21] (fun s21 wx => s21 = .int .u64 (headV R x.j : Nat) ∧ wx = wc)
        case first =>
          by_cases hrb : readsB R x.j = true
          · obtain ⟨g1, g2, g3⟩ := headN_get HROK.out hrb
            obtain ⟨j0, j1⟩ := of_decide_eq_true hrb
            obtain ⟨n, hn⟩ : ∃ n : Nat, x.j = n := ⟨x.j.toNat, by omega⟩
            obtain ⟨hd, hhd⟩ : ∃ hd, headN R x.j = hd := ⟨_, rfl⟩
            have HHV : Hid (headV R x.j = hd) := by show _ = _; unfold headV; rw [hrb, if_pos rfl, hhd]
            rw [hhd] at g1
            clear hhd
            obtain ⟨b9, o9, rfl, _, hxc⟩ := HPS7.out.2.2.2.1.get (Below.refl _ _) (show x.j.toNat < R.rd by omega) g1
            rw [hn] at y1
            rw [hn, Int.toNat_natCast] at hxc
            have hni : (n : Int) < (R.rd : Int) := by omega
            rw [hrb]
            clear g1 g2 g3 j0 j1 hn hrb
            go_wp2
            go_meet
            exact ⟨by rw [HHV.out], rfl⟩
          · have hrb : readsB R x.j = false := by simpa using hrb
            have HHV : Hid (headV R x.j = 0) := by show _ = _; unfold headV; rw [hrb, if_neg (by decide)]
            rw [hrb]
            clear hrb
            go_wp2
            go_meet
            exact ⟨by rw [HHV.out]; rfl, rfl⟩
        case rest =>
          obtain ⟨rfl, rfl⟩ := hcut
          clear d0 d1 d2 d3 d4 d5 d6 y0 y1 y2 y3 y4
          have hfp := free_pub R x.t
          have hhr := has_rel R x.j x.t
          have het := empty_take (R := R) x.j
          go_wp2_with fail
          go_cut [125] (fun s125 wx => s125 = .bool false ∧ PlN w wx w.heap.size g wr.heap.size w2.heap.size x R Ah ch As cs (rgV R.cap R.tail Ah R.rd ch R.cl (some ⟨b2, o2, none⟩) R.L.length cx2 R.rd))
          case first =>
            have hPN : PlN w wc.drew w.heap.size g wr.heap.size w2.heap.size x R Ah ch As cs (rgV R.cap R.tail Ah R.rd ch R.cl (some ⟨b2, o2, none⟩) R.L.length cx2 R.rd) := PlN.drewN ⟨HPS7.out, LNX7.out⟩ 1
            refine wp_region_held_drew (S := fun y => PlN w y w.heap.size g wr.heap.size w2.heap.size x R Ah ch As cs (rgV R.cap R.tail Ah R.rd ch R.cl (some ⟨b2, o2, none⟩) R.L.length cx2 R.rd)) (by kernel_rfl) hPN (fun hHeld => ?_)
            try simp only [Act.put, List.setIfInBounds_toArray, List.set_cons_zero, List.set_cons_succ]
            clear hPN HPS7 LNX7
            generalize wc.drew = wd at *
            change wpAnyH _ _ _ _ _ _ #[false, false, false, false, false, false, false, false, false, false, false, false, false, false, false, false, false, false, false, false, false, false, false, false, false, false, false, false, false, false, false, false, false, false, false, false, false, false, false, false, false, false, false, false, false, false, false, false, false, false, false, false, false, false, false, false] _ _
            as_aux_lemma =>
              refine wpAnyH_take (i := 0) (v := (.pointer (some ⟨g, 0, none⟩))) rfl (by kernel_rfl) (by kernel_rfl) (by kernel_rfl) (fun _ _ _ h => h) (Or.inl ⟨by rfl, fun w h => by (simp only [List.getElem_toArray, List.getElem_cons_succ, List.getElem_cons_zero]; clear h; go_simp)⟩) (by assumption) ?_
              simp only [Act.put, List.getElem_toArray, List.getElem_cons_succ, List.getElem_cons_zero, List.setIfInBounds_toArray, List.set_cons_zero, List.set_cons_succ]
              refine wpAnyH_take (i := 2) (v := (.pointer (some ⟨w.heap.size, 1, none⟩))) rfl (by kernel_rfl) (by kernel_rfl) (by kernel_rfl) (fun _ _ _ h => h) (Or.inl ⟨by rfl, fun w h => by (simp only [List.getElem_toArray, List.getElem_cons_succ, List.getElem_cons_zero]; clear h; go_simp)⟩) (by assumption) ?_
              simp only [Act.put, List.getElem_toArray, List.getElem_cons_succ, List.getElem_cons_zero, List.setIfInBounds_toArray, List.set_cons_zero, List.set_cons_succ]
              refine wpAnyH_take (i := 3) (v := ((.int .u64 (R.tail : Int)))) rfl (by kernel_rfl) (by kernel_rfl) (by kernel_rfl) (fun _ _ _ h => h) (Or.inl ⟨by rfl, fun w h => by (simp only [List.getElem_toArray, List.getElem_cons_succ, List.getElem_cons_zero]; have h1 := (h.1.boxed.2.1); clear h; go_simp)⟩) (by assumption) ?_
              simp only [Act.put, List.getElem_toArray, List.getElem_cons_succ, List.getElem_cons_zero, List.setIfInBounds_toArray, List.set_cons_zero, List.set_cons_succ]
              refine wpAnyH_ready (rs := [1]) (by kernel_rfl) (by simp) ?_
              refine AllReadyH.cons rfl (fun K hK => ?_) AllReadyH.nil
              rw [if_pos (by rfl)]
              go_wp2_with fail
              refine ((rgTail hHeld.1.1 rfl)).mono ?_
              rintro e w' ⟨rfl, rfl⟩
              dsimp only
              refine hK.out _ _ hHeld (fun _ => ?_)
              clear hK K
              try simp only [Act.put, List.setIfInBounds_toArray, List.set_cons_zero, List.set_cons_succ]
              refine wpAnyH_take (i := 4) (v := ((.bool false))) rfl (by kernel_rfl) (by kernel_rfl) (by kernel_rfl) (fun _ _ _ h => h) (Or.inl ⟨by rfl, fun w h => by (simp only [List.getElem_toArray, List.getElem_cons_succ, List.getElem_cons_zero]; clear h; go_simp)⟩) (by assumption) ?_
              simp only [Act.put, List.getElem_toArray, List.getElem_cons_succ, List.getElem_cons_zero, List.setIfInBounds_toArray, List.set_cons_zero, List.set_cons_succ]
              refine wpAnyH_take (i := 5) (v := (.bool false)) rfl (by kernel_rfl) (by kernel_rfl) (by kernel_rfl) (fun _ _ _ h => h) (Or.inl ⟨by rfl, fun w h => by (simp only [List.getElem_toArray, List.getElem_cons_succ, List.getElem_cons_zero]; clear h; go_simp)⟩) (by assumption) ?_
              simp only [Act.put, List.getElem_toArray, List.getElem_cons_succ, List.getElem_cons_zero, List.setIfInBounds_toArray, List.set_cons_zero, List.set_cons_succ]
              refine wpAnyH_take (i := 6) (v := (.pointer (some ⟨g, 0, none⟩))) rfl (by kernel_rfl) (by kernel_rfl) (by kernel_rfl) (fun _ _ _ h => h) (Or.inl ⟨by rfl, fun w h => by (simp only [List.getElem_toArray, List.getElem_cons_succ, List.getElem_cons_zero]; clear h; go_simp)⟩) (by assumption) ?_
              simp only [Act.put, List.getElem_toArray, List.getElem_cons_succ, List.getElem_cons_zero, List.setIfInBounds_toArray, List.set_cons_zero, List.set_cons_succ]
              refine wpAnyH_take (i := 7) (v := (.pointer (some ⟨wr.heap.size, 1, none⟩))) rfl (by kernel_rfl) (by kernel_rfl) (by kernel_rfl) (fun _ _ _ h => h) (Or.inl ⟨by rfl, fun w h => by (simp only [List.getElem_toArray, List.getElem_cons_succ, List.getElem_cons_zero]; clear h; go_simp)⟩) (by assumption) ?_
              simp only [Act.put, List.getElem_toArray, List.getElem_cons_succ, List.getElem_cons_zero, List.setIfInBounds_toArray, List.set_cons_zero, List.set_cons_succ]
              refine wpAnyH_take (i := 8) (v := ((.int .i64 x.j))) rfl (by kernel_rfl) (by kernel_rfl) (by kernel_rfl) (fun _ _ _ h => h) (Or.inl ⟨by rfl, fun w h => by (simp only [List.getElem_toArray, List.getElem_cons_succ, List.getElem_cons_zero]; have h1 := (h.1.call.2.1); clear h; go_simp)⟩) (by assumption) ?_
              simp only [Act.put, List.getElem_toArray, List.getElem_cons_succ, List.getElem_cons_zero, List.setIfInBounds_toArray, List.set_cons_zero, List.set_cons_succ]
              refine wpAnyH_take (i := 10) (v := (.int .u64 (headV R x.j : Nat))) rfl (by kernel_rfl) (by kernel_rfl) (by kernel_rfl) (fun _ _ _ h => h) (Or.inl ⟨by rfl, fun w h => by (simp only [List.getElem_toArray, List.getElem_cons_succ, List.getElem_cons_zero]; clear h; go_simp)⟩) (by assumption) ?_
              simp only [Act.put, List.getElem_toArray, List.getElem_cons_succ, List.getElem_cons_zero, List.setIfInBounds_toArray, List.set_cons_zero, List.set_cons_succ]
              refine wpAnyH_ready (rs := [9]) (by kernel_rfl) (by simp) ?_
              refine AllReadyH.cons rfl (fun K hK => ?_) AllReadyH.nil
              rw [if_pos (by rfl)]
              go_wp2_with fail
              refine ((rgHead x.j hHeld.1.1 rfl)).mono ?_
              rintro e w' ⟨rfl, rfl⟩
              dsimp only
              refine hK.out _ _ hHeld (fun _ => ?_)
              clear hK K
              try simp only [Act.put, List.setIfInBounds_toArray, List.set_cons_zero, List.set_cons_succ]
              refine wpAnyH_take (i := 11) (v := ((.bool false))) rfl (by kernel_rfl) (by kernel_rfl) (by kernel_rfl) (fun _ _ _ h => h) (Or.inl ⟨by rfl, fun w h => by (simp only [List.getElem_toArray, List.getElem_cons_succ, List.getElem_cons_zero]; clear h; go_simp)⟩) (by assumption) ?_
              simp only [Act.put, List.getElem_toArray, List.getElem_cons_succ, List.getElem_cons_zero, List.setIfInBounds_toArray, List.set_cons_zero, List.set_cons_succ]
              refine wpAnyH_take (i := 12) (v := ((.bool false))) rfl (by kernel_rfl) (by kernel_rfl) (by kernel_rfl) (fun _ _ _ h => h) (Or.inl ⟨by rfl, fun w h => by (simp only [List.getElem_toArray, List.getElem_cons_succ, List.getElem_cons_zero]; clear h; go_simp)⟩) (by assumption) ?_
              simp only [Act.put, List.getElem_toArray, List.getElem_cons_succ, List.getElem_cons_zero, List.setIfInBounds_toArray, List.set_cons_zero, List.set_cons_succ]
              refine wpAnyH_take (i := 13) (v := (.bool false)) rfl (by kernel_rfl) (by kernel_rfl) (by kernel_rfl) (fun _ _ _ h => h) (Or.inl ⟨by rfl, fun w h => by (simp only [List.getElem_toArray, List.getElem_cons_succ, List.getElem_cons_zero]; clear h; go_simp)⟩) (by assumption) ?_
              simp only [Act.put, List.getElem_toArray, List.getElem_cons_succ, List.getElem_cons_zero, List.setIfInBounds_toArray, List.set_cons_zero, List.set_cons_succ]
              refine wpAnyH_take (i := 14) (v := (.pointer (some ⟨g, 0, none⟩))) rfl (by kernel_rfl) (by kernel_rfl) (by kernel_rfl) (fun _ _ _ h => h) (Or.inl ⟨by rfl, fun w h => by (simp only [List.getElem_toArray, List.getElem_cons_succ, List.getElem_cons_zero]; clear h; go_simp)⟩) (by assumption) ?_
              simp only [Act.put, List.getElem_toArray, List.getElem_cons_succ, List.getElem_cons_zero, List.setIfInBounds_toArray, List.set_cons_zero, List.set_cons_succ]
              refine wpAnyH_take (i := 16) (v := (.pointer (some ⟨w.heap.size, 3, none⟩))) rfl (by kernel_rfl) (by kernel_rfl) (by kernel_rfl) (fun _ _ _ h => h) (Or.inl ⟨by rfl, fun w h => by (simp only [List.getElem_toArray, List.getElem_cons_succ, List.getElem_cons_zero]; clear h; go_simp)⟩) (by assumption) ?_
              simp only [Act.put, List.getElem_toArray, List.getElem_cons_succ, List.getElem_cons_zero, List.setIfInBounds_toArray, List.set_cons_zero, List.set_cons_succ]
              refine wpAnyH_take (i := 17) (v := ((.bool R.cl))) rfl (by kernel_rfl) (by kernel_rfl) (by kernel_rfl) (fun _ _ _ h => h) (Or.inl ⟨by rfl, fun w h => by (simp only [List.getElem_toArray, List.getElem_cons_succ, List.getElem_cons_zero]; have h1 := (h.1.boxed.2.2.2.1); clear h; go_simp)⟩) (by assumption) ?_
              simp only [Act.put, List.getElem_toArray, List.getElem_cons_succ, List.getElem_cons_zero, List.setIfInBounds_toArray, List.set_cons_zero, List.set_cons_succ]
              refine wpAnyH_ready (rs := [15]) (by kernel_rfl) (by simp) ?_
              refine AllReadyH.cons rfl (fun K hK => ?_) AllReadyH.nil
              rw [if_pos (by rfl)]
              go_wp2_with fail
              refine ((rgClosed hHeld.1.1 rfl)).mono ?_
              rintro e w' ⟨rfl, rfl⟩
              dsimp only
              refine hK.out _ _ hHeld (fun _ => ?_)
              clear hK K
              try simp only [Act.put, List.setIfInBounds_toArray, List.set_cons_zero, List.set_cons_succ]
              refine wpAnyH_take (i := 18) (v := ((.bool false))) rfl (by kernel_rfl) (by kernel_rfl) (by kernel_rfl) (fun _ _ _ h => h) (Or.inl ⟨by rfl, fun w h => by (simp only [List.getElem_toArray, List.getElem_cons_succ, List.getElem_cons_zero]; clear h; go_simp)⟩) (by assumption) ?_
              simp only [Act.put, List.getElem_toArray, List.getElem_cons_succ, List.getElem_cons_zero, List.setIfInBounds_toArray, List.set_cons_zero, List.set_cons_succ]
              refine wpAnyH_take (i := 19) (v := ((.bool false))) rfl (by kernel_rfl) (by kernel_rfl) (by kernel_rfl) (fun _ _ _ h => h) (Or.inl ⟨by rfl, fun w h => by (simp only [List.getElem_toArray, List.getElem_cons_succ, List.getElem_cons_zero]; clear h; go_simp)⟩) (by assumption) ?_
              simp only [Act.put, List.getElem_toArray, List.getElem_cons_succ, List.getElem_cons_zero, List.setIfInBounds_toArray, List.set_cons_zero, List.set_cons_succ]
              refine wpAnyH_take (i := 20) (v := (.bool false)) rfl (by kernel_rfl) (by kernel_rfl) (by kernel_rfl) (fun _ _ _ h => h) (Or.inl ⟨by rfl, fun w h => by (simp only [List.getElem_toArray, List.getElem_cons_succ, List.getElem_cons_zero]; clear h; go_simp)⟩) (by assumption) ?_
              simp only [Act.put, List.getElem_toArray, List.getElem_cons_succ, List.getElem_cons_zero, List.setIfInBounds_toArray, List.set_cons_zero, List.set_cons_succ]
              refine wpAnyH_take (i := 21) (v := (.pointer (some ⟨g, 0, none⟩))) rfl (by kernel_rfl) (by kernel_rfl) (by kernel_rfl) (fun _ _ _ h => h) (Or.inl ⟨by rfl, fun w h => by (simp only [List.getElem_toArray, List.getElem_cons_succ, List.getElem_cons_zero]; clear h; go_simp)⟩) (by assumption) ?_
              simp only [Act.put, List.getElem_toArray, List.getElem_cons_succ, List.getElem_cons_zero, List.setIfInBounds_toArray, List.set_cons_zero, List.set_cons_succ]
              refine wpAnyH_take (i := 23) (v := (.agg #[.int .u64 (R.cap : Int), .int .u64 (R.tail : Int), .slice Ah R.rd ch, .bool R.cl, .slice (some As) R.L.length cs, .int .i64 (R.rd : Int)])) rfl (by kernel_rfl) (by kernel_rfl) (by kernel_rfl) (fun _ _ _ h => h) (Or.inl ⟨by rfl, fun w h => by (simp only [List.getElem_toArray, List.getElem_cons_succ, List.getElem_cons_zero]; obtain ⟨k0, k1, k2, k3, k4, k5, _⟩ := h.1.boxed; clear h; go_simp)⟩) (by assumption) ?_
              simp only [Act.put, List.getElem_toArray, List.getElem_cons_succ, List.getElem_cons_zero, List.setIfInBounds_toArray, List.set_cons_zero, List.set_cons_succ]
              refine wpAnyH_ready (rs := [22]) (by kernel_rfl) (by simp) ?_
              refine AllReadyH.cons rfl (fun K hK => ?_) AllReadyH.nil
              rw [if_pos (by rfl)]
              go_wp2_with fail
              refine ((rgFull hHeld.1.1 rfl)).mono ?_
              rintro e w' ⟨rfl, nn, hw'⟩
              dsimp only
              have hN := hHeld.drewN nn
              rw [← hw'] at hN
              refine hK.out _ _ hN (fun _ => ?_)
              clear hK K hHeld hw' nn
              try simp only [Act.put, List.setIfInBounds_toArray, List.set_cons_zero, List.set_cons_succ]
              have hHeld := hN
              clear hN
              refine wpAnyH_ready (rs := [24]) (by kernel_rfl) (by simp) ?_
              refine AllReadyH.cons rfl (fun K hK => ?_) AllReadyH.nil
              rw [if_pos (by rfl)]
              go_wp2_with fail
              refine ((ref13Full HROK.out hHeld.1.2.2.2.1 (.bool true))).mono ?_
              rintro e w' ⟨rfl, hbN⟩
              dsimp only
              have hN := hHeld.later hbN
              refine hK.out _ _ hN (fun _ => ?_)
              clear hK K hHeld hbN
              try simp only [Act.put, List.setIfInBounds_toArray, List.set_cons_zero, List.set_cons_succ]
              have hHeld := hN
              clear hN
              refine wpAnyH_take (i := 25) (v := ((.bool false))) rfl (by kernel_rfl) (by kernel_rfl) (by kernel_rfl) (fun _ _ _ h => h) (Or.inl ⟨by rfl, fun w h => by (simp only [List.getElem_toArray, List.getElem_cons_succ, List.getElem_cons_zero]; clear h; go_simp)⟩) (by assumption) ?_
              simp only [Act.put, List.getElem_toArray, List.getElem_cons_succ, List.getElem_cons_zero, List.setIfInBounds_toArray, List.set_cons_zero, List.set_cons_succ]
              refine wpAnyH_take (i := 26) (v := ((.bool false))) rfl (by kernel_rfl) (by kernel_rfl) (by kernel_rfl) (fun _ _ _ h => h) (Or.inl ⟨by rfl, fun w h => by (simp only [List.getElem_toArray, List.getElem_cons_succ, List.getElem_cons_zero]; clear h; go_simp)⟩) (by assumption) ?_
              simp only [Act.put, List.getElem_toArray, List.getElem_cons_succ, List.getElem_cons_zero, List.setIfInBounds_toArray, List.set_cons_zero, List.set_cons_succ]
              refine wpAnyH_take (i := 27) (v := (.bool false)) rfl (by kernel_rfl) (by kernel_rfl) (by kernel_rfl) (fun _ _ _ h => h) (Or.inl ⟨by rfl, fun w h => by (simp only [List.getElem_toArray, List.getElem_cons_succ, List.getElem_cons_zero]; clear h; go_simp)⟩) (by assumption) ?_
              simp only [Act.put, List.getElem_toArray, List.getElem_cons_succ, List.getElem_cons_zero, List.setIfInBounds_toArray, List.set_cons_zero, List.set_cons_succ]
              refine wpAnyH_take (i := 28) (v := (.pointer (some ⟨g, 0, none⟩))) rfl (by kernel_rfl) (by kernel_rfl) (by kernel_rfl) (fun _ _ _ h => h) (Or.inl ⟨by rfl, fun w h => by (simp only [List.getElem_toArray, List.getElem_cons_succ, List.getElem_cons_zero]; clear h; go_simp)⟩) (by assumption) ?_
              simp only [Act.put, List.getElem_toArray, List.getElem_cons_succ, List.getElem_cons_zero, List.setIfInBounds_toArray, List.set_cons_zero, List.set_cons_succ]
              refine wpAnyH_take (i := 29) (v := (.pointer (some ⟨wr.heap.size, 1, none⟩))) rfl (by kernel_rfl) (by kernel_rfl) (by kernel_rfl) (fun _ _ _ h => h) (Or.inl ⟨by rfl, fun w h => by (simp only [List.getElem_toArray, List.getElem_cons_succ, List.getElem_cons_zero]; clear h; go_simp)⟩) (by assumption) ?_
              simp only [Act.put, List.getElem_toArray, List.getElem_cons_succ, List.getElem_cons_zero, List.setIfInBounds_toArray, List.set_cons_zero, List.set_cons_succ]
              refine wpAnyH_take (i := 30) (v := ((.int .i64 x.j))) rfl (by kernel_rfl) (by kernel_rfl) (by kernel_rfl) (fun _ _ _ h => h) (Or.inl ⟨by rfl, fun w h => by (simp only [List.getElem_toArray, List.getElem_cons_succ, List.getElem_cons_zero]; have h1 := (h.1.call.2.1); clear h; go_simp)⟩) (by assumption) ?_
              simp only [Act.put, List.getElem_toArray, List.getElem_cons_succ, List.getElem_cons_zero, List.setIfInBounds_toArray, List.set_cons_zero, List.set_cons_succ]
              refine wpAnyH_take (i := 32) (v := (.int .i64 (takeE R x.j : Nat))) rfl (by kernel_rfl) (by kernel_rfl) (by kernel_rfl) (fun _ _ _ h => h) (Or.inl ⟨by rfl, fun w h => by (simp only [List.getElem_toArray, List.getElem_cons_succ, List.getElem_cons_zero]; clear h; go_simp)⟩) (by assumption) ?_
              simp only [Act.put, List.getElem_toArray, List.getElem_cons_succ, List.getElem_cons_zero, List.setIfInBounds_toArray, List.set_cons_zero, List.set_cons_succ]
              refine wpAnyH_take (i := 33) (v := ((.bool (emptyB R x.j)))) rfl (by kernel_rfl) (by kernel_rfl) (by kernel_rfl) (fun _ _ _ h => h) (Or.inl ⟨by rfl, fun w h => by (simp only [List.getElem_toArray, List.getElem_cons_succ, List.getElem_cons_zero]; clear h; go_simp)⟩) (by assumption) ?_
              simp only [Act.put, List.getElem_toArray, List.getElem_cons_succ, List.getElem_cons_zero, List.setIfInBounds_toArray, List.set_cons_zero, List.set_cons_succ]
              refine wpAnyH_ready (rs := [31]) (by kernel_rfl) (by simp) ?_
              refine AllReadyH.cons rfl (fun K hK => ?_) AllReadyH.nil
              rw [if_pos (by rfl)]
              go_wp2_with fail
              refine ((rgEmpty x.j hHeld.1.1 rfl)).mono ?_
              rintro e w' ⟨rfl, nn, hw'⟩
              dsimp only
              have hN := hHeld.drewN nn
              rw [← hw'] at hN
              refine hK.out _ _ hN (fun _ => ?_)
              clear hK K hHeld hw' nn
              try simp only [Act.put, List.setIfInBounds_toArray, List.set_cons_zero, List.set_cons_succ]
              have hHeld := hN
              clear hN
              refine wpAnyH_take (i := 34) (v := ((.bool false))) rfl (by kernel_rfl) (by kernel_rfl) (by kernel_rfl) (fun _ _ _ h => h) (Or.inl ⟨by rfl, fun w h => by (simp only [List.getElem_toArray, List.getElem_cons_succ, List.getElem_cons_zero]; clear h; go_simp)⟩) (by assumption) ?_
              simp only [Act.put, List.getElem_toArray, List.getElem_cons_succ, List.getElem_cons_zero, List.setIfInBounds_toArray, List.set_cons_zero, List.set_cons_succ]
              refine wpAnyH_take (i := 35) (v := ((.bool false))) rfl (by kernel_rfl) (by kernel_rfl) (by kernel_rfl) (fun _ _ _ h => h) (Or.inl ⟨by rfl, fun w h => by (simp only [List.getElem_toArray, List.getElem_cons_succ, List.getElem_cons_zero]; clear h; go_simp)⟩) (by assumption) ?_
              simp only [Act.put, List.getElem_toArray, List.getElem_cons_succ, List.getElem_cons_zero, List.setIfInBounds_toArray, List.set_cons_zero, List.set_cons_succ]
              refine wpAnyH_take (i := 36) (v := (.bool false)) rfl (by kernel_rfl) (by kernel_rfl) (by kernel_rfl) (fun _ _ _ h => h) (Or.inl ⟨by rfl, fun w h => by (simp only [List.getElem_toArray, List.getElem_cons_succ, List.getElem_cons_zero]; clear h; go_simp)⟩) (by assumption) ?_
              simp only [Act.put, List.getElem_toArray, List.getElem_cons_succ, List.getElem_cons_zero, List.setIfInBounds_toArray, List.set_cons_zero, List.set_cons_succ]
              refine wpAnyH_take (i := 37) (v := (.pointer (some ⟨g, 0, none⟩))) rfl (by kernel_rfl) (by kernel_rfl) (by kernel_rfl) (fun _ _ _ h => h) (Or.inl ⟨by rfl, fun w h => by (simp only [List.getElem_toArray, List.getElem_cons_succ, List.getElem_cons_zero]; clear h; go_simp)⟩) (by assumption) ?_
              simp only [Act.put, List.getElem_toArray, List.getElem_cons_succ, List.getElem_cons_zero, List.setIfInBounds_toArray, List.set_cons_zero, List.set_cons_succ]
              refine wpAnyH_take (i := 38) (v := (.pointer (some ⟨wr.heap.size, 2, none⟩))) rfl (by kernel_rfl) (by kernel_rfl) (by kernel_rfl) (fun _ _ _ h => h) (Or.inl ⟨by rfl, fun w h => by (simp only [List.getElem_toArray, List.getElem_cons_succ, List.getElem_cons_zero]; clear h; go_simp)⟩) (by assumption) ?_
              simp only [Act.put, List.getElem_toArray, List.getElem_cons_succ, List.getElem_cons_zero, List.setIfInBounds_toArray, List.set_cons_zero, List.set_cons_succ]
              refine wpAnyH_take (i := 39) (v := ((.int .u64 (x.t : Int)))) rfl (by kernel_rfl) (by kernel_rfl) (by kernel_rfl) (fun _ _ _ h => h) (Or.inl ⟨by rfl, fun w h => by (simp only [List.getElem_toArray, List.getElem_cons_succ, List.getElem_cons_zero]; have h1 := (h.1.call.2.2.1); clear h; go_simp)⟩) (by assumption) ?_
              simp only [Act.put, List.getElem_toArray, List.getElem_cons_succ, List.getElem_cons_zero, List.setIfInBounds_toArray, List.set_cons_zero, List.set_cons_succ]
              refine wpAnyH_take (i := 41) (v := (.int .i64 (pubE R x.t : Nat))) rfl (by kernel_rfl) (by kernel_rfl) (by kernel_rfl) (fun _ _ _ h => h) (Or.inl ⟨by rfl, fun w h => by (simp only [List.getElem_toArray, List.getElem_cons_succ, List.getElem_cons_zero]; clear h; go_simp)⟩) (by assumption) ?_
              simp only [Act.put, List.getElem_toArray, List.getElem_cons_succ, List.getElem_cons_zero, List.setIfInBounds_toArray, List.set_cons_zero, List.set_cons_succ]
              refine wpAnyH_take (i := 42) (v := ((.bool (rfreeB R x.t)))) rfl (by kernel_rfl) (by kernel_rfl) (by kernel_rfl) (fun _ _ _ h => h) (Or.inl ⟨by rfl, fun w h => by (simp only [List.getElem_toArray, List.getElem_cons_succ, List.getElem_cons_zero]; clear h; go_simp)⟩) (by assumption) ?_
              simp only [Act.put, List.getElem_toArray, List.getElem_cons_succ, List.getElem_cons_zero, List.setIfInBounds_toArray, List.set_cons_zero, List.set_cons_succ]
              refine wpAnyH_ready (rs := [40]) (by kernel_rfl) (by simp) ?_
              refine AllReadyH.cons rfl (fun K hK => ?_) AllReadyH.nil
              rw [if_pos (by rfl)]
              go_wp2_with fail
              refine ((rgFree x.t hHeld.1.1 rfl HX.out.2.2.2.2.1)).mono ?_
              rintro e w' ⟨rfl, nn, hw'⟩
              dsimp only
              have hN := hHeld.drewN nn
              rw [← hw'] at hN
              refine hK.out _ _ hN (fun _ => ?_)
              clear hK K hHeld hw' nn
              try simp only [Act.put, List.setIfInBounds_toArray, List.set_cons_zero, List.set_cons_succ]
              have hHeld := hN
              clear hN
              refine wpAnyH_take (i := 43) (v := ((.bool false))) rfl (by kernel_rfl) (by kernel_rfl) (by kernel_rfl) (fun _ _ _ h => h) (Or.inl ⟨by rfl, fun w h => by (simp only [List.getElem_toArray, List.getElem_cons_succ, List.getElem_cons_zero]; clear h; go_simp)⟩) (by assumption) ?_
              simp only [Act.put, List.getElem_toArray, List.getElem_cons_succ, List.getElem_cons_zero, List.setIfInBounds_toArray, List.set_cons_zero, List.set_cons_succ]
              refine wpAnyH_take (i := 44) (v := ((.bool false))) rfl (by kernel_rfl) (by kernel_rfl) (by kernel_rfl) (fun _ _ _ h => h) (Or.inl ⟨by rfl, fun w h => by (simp only [List.getElem_toArray, List.getElem_cons_succ, List.getElem_cons_zero]; clear h; go_simp)⟩) (by assumption) ?_
              simp only [Act.put, List.getElem_toArray, List.getElem_cons_succ, List.getElem_cons_zero, List.setIfInBounds_toArray, List.set_cons_zero, List.set_cons_succ]
              refine wpAnyH_take (i := 45) (v := (.bool false)) rfl (by kernel_rfl) (by kernel_rfl) (by kernel_rfl) (fun _ _ _ h => h) (Or.inl ⟨by rfl, fun w h => by (simp only [List.getElem_toArray, List.getElem_cons_succ, List.getElem_cons_zero]; clear h; go_simp)⟩) (by assumption) ?_
              simp only [Act.put, List.getElem_toArray, List.getElem_cons_succ, List.getElem_cons_zero, List.setIfInBounds_toArray, List.set_cons_zero, List.set_cons_succ]
              refine wpAnyH_take (i := 46) (v := (.pointer (some ⟨g, 0, none⟩))) rfl (by kernel_rfl) (by kernel_rfl) (by kernel_rfl) (fun _ _ _ h => h) (Or.inl ⟨by rfl, fun w h => by (simp only [List.getElem_toArray, List.getElem_cons_succ, List.getElem_cons_zero]; clear h; go_simp)⟩) (by assumption) ?_
              simp only [Act.put, List.getElem_toArray, List.getElem_cons_succ, List.getElem_cons_zero, List.setIfInBounds_toArray, List.set_cons_zero, List.set_cons_succ]
              refine wpAnyH_take (i := 47) (v := (.pointer (some ⟨wr.heap.size, 1, none⟩))) rfl (by kernel_rfl) (by kernel_rfl) (by kernel_rfl) (fun _ _ _ h => h) (Or.inl ⟨by rfl, fun w h => by (simp only [List.getElem_toArray, List.getElem_cons_succ, List.getElem_cons_zero]; clear h; go_simp)⟩) (by assumption) ?_
              simp only [Act.put, List.getElem_toArray, List.getElem_cons_succ, List.getElem_cons_zero, List.setIfInBounds_toArray, List.set_cons_zero, List.set_cons_succ]
              refine wpAnyH_take (i := 48) (v := ((.int .i64 x.j))) rfl (by kernel_rfl) (by kernel_rfl) (by kernel_rfl) (fun _ _ _ h => h) (Or.inl ⟨by rfl, fun w h => by (simp only [List.getElem_toArray, List.getElem_cons_succ, List.getElem_cons_zero]; have h1 := (h.1.call.2.1); clear h; go_simp)⟩) (by assumption) ?_
              simp only [Act.put, List.getElem_toArray, List.getElem_cons_succ, List.getElem_cons_zero, List.setIfInBounds_toArray, List.set_cons_zero, List.set_cons_succ]
              refine wpAnyH_take (i := 49) (v := (.pointer (some ⟨wr.heap.size, 2, none⟩))) rfl (by kernel_rfl) (by kernel_rfl) (by kernel_rfl) (fun _ _ _ h => h) (Or.inl ⟨by rfl, fun w h => by (simp only [List.getElem_toArray, List.getElem_cons_succ, List.getElem_cons_zero]; clear h; go_simp)⟩) (by assumption) ?_
              simp only [Act.put, List.getElem_toArray, List.getElem_cons_succ, List.getElem_cons_zero, List.setIfInBounds_toArray, List.set_cons_zero, List.set_cons_succ]
              refine wpAnyH_take (i := 50) (v := ((.int .u64 (x.t : Int)))) rfl (by kernel_rfl) (by kernel_rfl) (by kernel_rfl) (fun _ _ _ h => h) (Or.inl ⟨by rfl, fun w h => by (simp only [List.getElem_toArray, List.getElem_cons_succ, List.getElem_cons_zero]; have h1 := (h.1.call.2.2.1); clear h; go_simp)⟩) (by assumption) ?_
              simp only [Act.put, List.getElem_toArray, List.getElem_cons_succ, List.getElem_cons_zero, List.setIfInBounds_toArray, List.set_cons_zero, List.set_cons_succ]
              refine wpAnyH_take (i := 52) (v := (.int .i64 (relE R x.j x.t : Nat))) rfl (by kernel_rfl) (by kernel_rfl) (by kernel_rfl) (fun _ _ _ h => h) (Or.inl ⟨by rfl, fun w h => by (simp only [List.getElem_toArray, List.getElem_cons_succ, List.getElem_cons_zero]; clear h; go_simp)⟩) (by assumption) ?_
              simp only [Act.put, List.getElem_toArray, List.getElem_cons_succ, List.getElem_cons_zero, List.setIfInBounds_toArray, List.set_cons_zero, List.set_cons_succ]
              refine wpAnyH_take (i := 53) (v := ((.bool (rhasB R x.j x.t)))) rfl (by kernel_rfl) (by kernel_rfl) (by kernel_rfl) (fun _ _ _ h => h) (Or.inl ⟨by rfl, fun w h => by (simp only [List.getElem_toArray, List.getElem_cons_succ, List.getElem_cons_zero]; clear h; go_simp)⟩) (by assumption) ?_
              simp only [Act.put, List.getElem_toArray, List.getElem_cons_succ, List.getElem_cons_zero, List.setIfInBounds_toArray, List.set_cons_zero, List.set_cons_succ]
              refine wpAnyH_ready (rs := [51]) (by kernel_rfl) (by simp) ?_
              refine AllReadyH.cons rfl (fun K hK => ?_) AllReadyH.nil
              rw [if_pos (by rfl)]
              go_wp2_with fail
              refine ((rgHas x.j x.t hHeld.1.1 rfl HX.out.2.2.2.2.1)).mono ?_
              rintro e w' ⟨rfl, hbN⟩
              dsimp only
              have hN := hHeld.later hbN
              refine hK.out _ _ hN (fun _ => ?_)
              clear hK K hHeld hbN
              try simp only [Act.put, List.setIfInBounds_toArray, List.set_cons_zero, List.set_cons_succ]
              have hHeld := hN
              clear hN
              refine wpAnyH_take (i := 54) (v := ((.bool false))) rfl (by kernel_rfl) (by kernel_rfl) (by kernel_rfl) (fun _ _ _ h => h) (Or.inl ⟨by rfl, fun w h => by (simp only [List.getElem_toArray, List.getElem_cons_succ, List.getElem_cons_zero]; clear h; go_simp)⟩) (by assumption) ?_
              simp only [Act.put, List.getElem_toArray, List.getElem_cons_succ, List.getElem_cons_zero, List.setIfInBounds_toArray, List.set_cons_zero, List.set_cons_succ]
              refine wpAnyH_take (i := 55) (v := ((.bool false))) rfl (by kernel_rfl) (by kernel_rfl) (by kernel_rfl) (fun _ _ _ h => h) (Or.inl ⟨by rfl, fun w h => by (simp only [List.getElem_toArray, List.getElem_cons_succ, List.getElem_cons_zero]; clear h; go_simp)⟩) (by assumption) ?_
              simp only [Act.put, List.getElem_toArray, List.getElem_cons_succ, List.getElem_cons_zero, List.setIfInBounds_toArray, List.set_cons_zero, List.set_cons_succ]
              refine wpAnyH_done (by kernel_rfl) ?_ _
              go_wp2
              go_meet
              exact ⟨rfl, hHeld⟩
          case rest =>
            obtain ⟨rfl, hpn⟩ := hcut
            clear hfp hhr het HPS7 LNX7
            obtain ⟨d0, d1, d2, d3, d4, d5, d6⟩ := hpn.1.boxed
            obtain ⟨y0, y1, y2, y3, y4⟩ := hpn.1.call
            have HPN := Lib.hid hpn
            have htm : R.tail < 4611687117939015680 := by have := HTT.out; omega
            clear hpn
            go_upto_block 2 with (fail)
            go_cut [9, 10, 11, 12] (fun s9 s10 s11 s12 wx => ∃ (V E : Nat) (R' : Rg) (Ah' : Option Addr) (ch' : Nat) (As' : Addr) (cs' : Nat), s9 = .int .u64 V ∧ s10 = .int .u64 V ∧ s11 = .int .i64 E ∧ s12 = .int .i64 E ∧ R'.tail ≤ R.tail + 1 ∧ HdAway g w.heap.size Ah' ∧ g + 1 ≤ As'.block ∧ Hid (StR w wx w.heap.size g R' Ah' ch' As' cs'))
            case first =>
              rcases doK_cases x with ⟨e, k0⟩ | ⟨e, k0, k1⟩ | ⟨e, k0, k1, k2⟩ | ⟨e, k0, k1, k2, k3⟩ | ⟨e, k0, k1, k2, k3⟩
              · have e0 : (wrap64 ((IntKind.u64.wrap x.k).tmod 5) == 0) = true := by rw [beq_iff_eq]; exact k0
                clear e k0
                as_aux_lemma =>
                  have HC := Lib.hid ((rgClaim HPN.out.1.1 rfl htm))
                  go_wp2_with fail
                  refine HC.out.mono ?_
                  rintro e w7 ⟨rfl, hr7, hk7⟩
                  obtain ⟨_, lb7, lq7, hh7, hs7, kk7⟩ := HPN.out.1.own hfh hwg hqg hfs hr7 hk7
                  clear HC
                  clear d0 d1 d2 d3 d4 d5 d6 y0 y1 y2 y3 y4
                  have d0 := lb7.cell 0
                  have d1 := lb7.cell 1
                  have d2 := lb7.cell 2
                  have d3 := lb7.cell 3
                  have d4 := lb7.cell 4
                  have d5 := lb7.cell 5
                  have y1 := lq7.cell 1
                  have y2 := lq7.cell 2
                  have y3 := lq7.cell 3
                  simp only [List.getElem?_toArray, List.getElem?_cons_zero, List.getElem?_cons_succ] at d0 d1 d2 d3 d4 d5 y1 y2 y3
                  have d6 := lb7.lt
                  have y4 := lq7.lt
                  have HD := Lib.hid ((ref13Claim (As := some As) (cs := cs) HROK.out hh7))
                  have HR7 := Lib.hid hr7
                  have LB7 := Lib.hid lb7
                  have HH7 := Lib.hid hh7
                  have HS7 := Lib.hid hs7
                  have KK7 := Lib.hid kk7
                  clear hr7 lb7 lq7 hh7 hs7 kk7 HPN
                  go_wp2_with fail
                  refine HD.out.mono ?_
                  rintro e w8 (⟨rfl, hb8⟩)
                  have lb8 := LB7.out.below hb8 LB7.out.lt
                  have hr8 := HR7.out.later hb8
                  have kk8 := kept_below_ KK7.out hb8
                  clear d0 d1 d2 d3 d4 d5 d6 y1 y2 y3 y4 HD
                  have d0 := lb8.cell 0
                  have d1 := lb8.cell 1
                  have d2 := lb8.cell 2
                  have d3 := lb8.cell 3
                  have d4 := lb8.cell 4
                  have d5 := lb8.cell 5
                  simp only [List.getElem?_toArray, List.getElem?_cons_zero, List.getElem?_cons_succ] at d0 d1 d2 d3 d4 d5
                  have f0 := lb8.free 0
                  have f1 := lb8.free 1
                  have f2 := lb8.free 2
                  have f3 := lb8.free 3
                  have f4 := lb8.free 4
                  have f5 := lb8.free 5
                  have d6 := lb8.lt
                  obtain ⟨q1, q2, q3, q4, q5, q6⟩ := claim_same R
                  have HST := Lib.hid (StR.next (t := (claimR R).tail) hr8 lb8 kk8 (by rw [q4]; exact HH7.out.later hb8) (by rw [q5]; exact HS7.out.later hb8) hfh hwg (Nat.le_refl _) q1 rfl q2 q3 (by rw [q5]))
                  clear lb8 hr8 kk8 q1 q2 q3 q4 q5
                  go_wp2
                  go_meet
                  exact ⟨claimV R, claimE R, _, _, _, _, _, rfl, rfl, rfl, rfl, q6, hfh, hfs, HST⟩
              · have e0 : (wrap64 ((IntKind.u64.wrap x.k).tmod 5) == 0) = false := by rw [beq_eq_false_iff_ne]; exact k0
                have e1 : (wrap64 ((IntKind.u64.wrap x.k).tmod 5) == 1) = true := by rw [beq_iff_eq]; exact k1
                clear e k0 k1
                have HC := Lib.hid ((rgPublish x.t x.v HPN.out.1.1 rfl HX.out.2.2.2.2.1 HX.out.2.2.2.2.2))
                go_wp2_with fail
                refine HC.out.mono ?_
                rintro e w7 ⟨rfl, hr7, hk7⟩
                obtain ⟨_, lb7, lq7, hh7, hs7, kk7⟩ := HPN.out.1.own hfh hwg hqg hfs hr7 hk7
                clear HC
                clear d0 d1 d2 d3 d4 d5 d6 y0 y1 y2 y3 y4
                have d0 := lb7.cell 0
                have d1 := lb7.cell 1
                have d2 := lb7.cell 2
                have d3 := lb7.cell 3
                have d4 := lb7.cell 4
                have d5 := lb7.cell 5
                have y1 := lq7.cell 1
                have y2 := lq7.cell 2
                have y3 := lq7.cell 3
                simp only [List.getElem?_toArray, List.getElem?_cons_zero, List.getElem?_cons_succ] at d0 d1 d2 d3 d4 d5 y1 y2 y3
                have d6 := lb7.lt
                have y4 := lq7.lt
                have LN7 := Lib.hid (HPN.out.2.kept hk7 (fun (e : w2.heap.size = g) => by omega))
                have HD := Lib.hid ((ref13Publish (Ah := Ah) (ch := ch) (cs := cs) x.t x.v (g + 1) HROK.out hs7 HX.out.2.2.2.2.1 HX.out.2.2.2.2.2 hfs hr7.lt))
                have HR7 := Lib.hid hr7
                have LB7 := Lib.hid lb7
                have HH7 := Lib.hid hh7
                have HS7 := Lib.hid hs7
                have KK7 := Lib.hid kk7
                clear hr7 lb7 lq7 hh7 hs7 kk7 HPN
                go_wp2_with fail
                refine HD.out.mono ?_
                rintro e w8 (⟨b8, o8, c8, rfl, hs8, hf8, hb8⟩)
                have lb8 := LB7.out.below hb8 LB7.out.lt
                have hr8 := HR7.out.later hb8
                have kk8 := kept_below_ KK7.out hb8
                clear d0 d1 d2 d3 d4 d5 d6 y1 y2 y3 y4 HD
                have d0 := lb8.cell 0
                have d1 := lb8.cell 1
                have d2 := lb8.cell 2
                have d3 := lb8.cell 3
                have d4 := lb8.cell 4
                have d5 := lb8.cell 5
                simp only [List.getElem?_toArray, List.getElem?_cons_zero, List.getElem?_cons_succ] at d0 d1 d2 d3 d4 d5
                have f0 := lb8.free 0
                have f1 := lb8.free 1
                have f2 := lb8.free 2
                have f3 := lb8.free 3
                have f4 := lb8.free 4
                have f5 := lb8.free 5
                have d6 := lb8.lt
                obtain ⟨q1, q2, q3, q4, q5, q6⟩ := pub_same R x.t x.v
                have ln8 := LN7.out.below hb8 LN7.out.lt
                have ln9 := st6_lies (a0 := .int .u64 (R.cap : Int)) (a1 := .int .u64 (R.tail : Int)) (a2 := .slice Ah R.rd ch) (a3 := .bool R.cl) (a4 := .slice (some ⟨b8, o8, none⟩) R.L.length c8) (a5 := .int .i64 (R.rd : Int)) ln8 rfl
                have hk9 := st6_kept w8 w2.heap.size (.int .u64 (R.cap : Int)) (.int .u64 (R.tail : Int)) (.slice Ah R.rd ch) (.bool R.cl) (.slice (some ⟨b8, o8, none⟩) R.L.length c8) (.int .i64 (R.rd : Int))
                have lb9 := lb8.kept hk9 (fun (e : w.heap.size = w2.heap.size) => by omega)
                have hr9 := hr8.kept hk9 (fun (e : g = w2.heap.size) => by omega)
                have hh9 := seqAt_kept (HH7.out.later hb8) hk9 (fun c o e (e2 : c = w2.heap.size) => by have := HFB.out c o e; omega)
                have hs9 := hs8.keptT hk9 (fun c _ o e (e2 : c = w2.heap.size) => by
                  simp only [Value.slice.injEq, Option.some.injEq, Addr.mk.injEq] at e
                  obtain ⟨⟨rfl, _⟩, _⟩ := e
                  exact r13_ne ln8 hs8 hr8.1.2.1.1 e2)
                have kk9 := kk8.trans hk9 (fun i hi (e : i = w2.heap.size) => by omega)
                have g0 := ln8.cell 0
                have g1 := ln8.cell 1
                have g2 := ln8.cell 2
                have g3 := ln8.cell 3
                have g4 := ln8.cell 4
                have g5 := ln8.cell 5
                simp only [List.getElem?_toArray, List.getElem?_cons_zero, List.getElem?_cons_succ] at g0 g1 g2 g3 g4 g5
                have i0 := ln8.free 0
                have i1 := ln8.free 1
                have i2 := ln8.free 2
                have i3 := ln8.free 3
                have i4 := ln8.free 4
                have i5 := ln8.free 5
                have i6 := ln8.lt
                unfold st6 at ln9 hk9 lb9 hr9 hh9 hs9 kk9
                have LN9 := Lib.hid ln9
                have LB9 := Lib.hid lb9
                have HR9 := Lib.hid hr9
                have HH9 := Lib.hid hh9
                have HS9 := Lib.hid hs9
                have KK9 := Lib.hid kk9
                clear ln8 lb8 hr8 kk8 hs8 ln9 hk9 lb9 hr9 hh9 hs9 kk9 LN7 LB7 HR7 HH7 HS7 KK7
                go_upto_region 24 with (fail)
                clear d0 d1 d2 d3 d4 d5 d6 f0 f1 f2 f3 f4 f5 g0 g1 g2 g3 g4 g5 i0 i1 i2 i3 i4 i5 i6 hb8
                generalize World.setCell _ ⟨w2.heap.size, 5, none⟩ (.int .i64 (R.rd : Int)) = w9 at *
                have g0 := LN9.out.cell 0
                have g1 := LN9.out.cell 1
                have g2 := LN9.out.cell 2
                have g3 := LN9.out.cell 3
                have g4 := LN9.out.cell 4
                have g5 := LN9.out.cell 5
                have d0 := LB9.out.cell 0
                have d1 := LB9.out.cell 1
                have d2 := LB9.out.cell 2
                have d3 := LB9.out.cell 3
                have d4 := LB9.out.cell 4
                have d5 := LB9.out.cell 5
                simp only [List.getElem?_toArray, List.getElem?_cons_zero, List.getElem?_cons_succ] at d0 d1 d2 d3 d4 d5 g0 g1 g2 g3 g4 g5
                have f0 := LB9.out.free 0
                have f1 := LB9.out.free 1
                have f2 := LB9.out.free 2
                have f3 := LB9.out.free 3
                have f4 := LB9.out.free 4
                have f5 := LB9.out.free 5
                have d6 := LB9.out.lt
                have g6 := LN9.out.lt
                have HST := Lib.hid (StR.next HR9.out LB9.out KK9.out (by rw [q4]; exact HH9.out) HS9.out hfh hwg (Nat.le_refl _) q1 q6 q2 q3 q5)
                clear HR9 LB9 KK9 HH9 HS9 LN9 q1 q2 q3 q4 q5
                go_wp2
                go_meet
                exact ⟨0, pubE R x.t, _, _, _, _, _, rfl, rfl, rfl, rfl, by omega, hfh, hf8, HST⟩
              · have e0 : (wrap64 ((IntKind.u64.wrap x.k).tmod 5) == 0) = false := by rw [beq_eq_false_iff_ne]; exact k0
                have e1 : (wrap64 ((IntKind.u64.wrap x.k).tmod 5) == 1) = false := by rw [beq_eq_false_iff_ne]; exact k1
                have e2 : (wrap64 ((IntKind.u64.wrap x.k).tmod 5) == 2) = true := by rw [beq_iff_eq]; exact k2
                clear e k0 k1 k2
                as_aux_lemma =>
                  have HC := Lib.hid ((rgTake x.j HPN.out.1.1 rfl))
                  go_wp2_with fail
                  refine HC.out.mono ?_
                  rintro e w7 ⟨rfl, hr7, hk7⟩
                  obtain ⟨_, lb7, lq7, hh7, hs7, kk7⟩ := HPN.out.1.own hfh hwg hqg hfs hr7 hk7
                  clear HC
                  clear d0 d1 d2 d3 d4 d5 d6 y0 y1 y2 y3 y4
                  have d0 := lb7.cell 0
                  have d1 := lb7.cell 1
                  have d2 := lb7.cell 2
                  have d3 := lb7.cell 3
                  have d4 := lb7.cell 4
                  have d5 := lb7.cell 5
                  have y1 := lq7.cell 1
                  have y2 := lq7.cell 2
                  have y3 := lq7.cell 3
                  simp only [List.getElem?_toArray, List.getElem?_cons_zero, List.getElem?_cons_succ] at d0 d1 d2 d3 d4 d5 y1 y2 y3
                  have d6 := lb7.lt
                  have y4 := lq7.lt
                  have HD := Lib.hid ((ref13Take (As := some As) (cs := cs) x.j HROK.out hh7))
                  have HR7 := Lib.hid hr7
                  have LB7 := Lib.hid lb7
                  have HH7 := Lib.hid hh7
                  have HS7 := Lib.hid hs7
                  have KK7 := Lib.hid kk7
                  clear hr7 lb7 lq7 hh7 hs7 kk7 HPN
                  go_wp2_with fail
                  refine HD.out.mono ?_
                  rintro e w8 (⟨A8, c8, rfl, hh8, hn8, hb8⟩)
                  have lb8 := LB7.out.below hb8 LB7.out.lt
                  have hr8 := HR7.out.later hb8
                  have kk8 := kept_below_ KK7.out hb8
                  clear d0 d1 d2 d3 d4 d5 d6 y1 y2 y3 y4 HD
                  have d0 := lb8.cell 0
                  have d1 := lb8.cell 1
                  have d2 := lb8.cell 2
                  have d3 := lb8.cell 3
                  have d4 := lb8.cell 4
                  have d5 := lb8.cell 5
                  simp only [List.getElem?_toArray, List.getElem?_cons_zero, List.getElem?_cons_succ] at d0 d1 d2 d3 d4 d5
                  have f0 := lb8.free 0
                  have f1 := lb8.free 1
                  have f2 := lb8.free 2
                  have f3 := lb8.free 3
                  have f4 := lb8.free 4
                  have f5 := lb8.free 5
                  have d6 := lb8.lt
                  obtain ⟨q1, q2, q3, q4, q5⟩ := take_same R x.j
                  have hfh8 := hfh.next hn8 HR7.out.lt LB7.out.lt
                  have HST := Lib.hid (StR.next hr8 lb8 kk8 hh8 (by rw [q4]; exact HS7.out.later hb8) hfh8 hwg (Nat.le_refl _) q1 q5 q2 q3 (by rw [q4]))
                  clear lb8 hr8 kk8 q1 q2 q3 q4 hh8 hn8
                  go_wp2
                  go_meet
                  exact ⟨takeV R x.j, takeE R x.j, _, _, _, _, _, rfl, rfl, rfl, rfl, by omega, hfh8, hfs, HST⟩
              · have e0 : (wrap64 ((IntKind.u64.wrap x.k).tmod 5) == 0) = false := by rw [beq_eq_false_iff_ne]; exact k0
                have e1 : (wrap64 ((IntKind.u64.wrap x.k).tmod 5) == 1) = false := by rw [beq_eq_false_iff_ne]; exact k1
                have e2 : (wrap64 ((IntKind.u64.wrap x.k).tmod 5) == 2) = false := by rw [beq_eq_false_iff_ne]; exact k2
                have e3 : (wrap64 ((IntKind.u64.wrap x.k).tmod 5) == 3) = true := by rw [beq_iff_eq]; exact k3
                clear e k0 k1 k2 k3
                as_aux_lemma =>
                  have HC := Lib.hid ((rgRelease x.j x.t HPN.out.1.1 rfl HX.out.2.2.2.2.1))
                  go_wp2_with fail
                  refine HC.out.mono ?_
                  rintro e w7 ⟨rfl, hr7, hk7⟩
                  obtain ⟨_, lb7, lq7, hh7, hs7, kk7⟩ := HPN.out.1.own hfh hwg hqg hfs hr7 hk7
                  clear HC
                  clear d0 d1 d2 d3 d4 d5 d6 y0 y1 y2 y3 y4
                  have d0 := lb7.cell 0
                  have d1 := lb7.cell 1
                  have d2 := lb7.cell 2
                  have d3 := lb7.cell 3
                  have d4 := lb7.cell 4
                  have d5 := lb7.cell 5
                  have y1 := lq7.cell 1
                  have y2 := lq7.cell 2
                  have y3 := lq7.cell 3
                  simp only [List.getElem?_toArray, List.getElem?_cons_zero, List.getElem?_cons_succ] at d0 d1 d2 d3 d4 d5 y1 y2 y3
                  have d6 := lb7.lt
                  have y4 := lq7.lt
                  have HD := Lib.hid ((ref13Release (ch := ch) (cs := cs) x.j x.t (g + 1) HROK.out hh7 hs7 HX.out.2.2.2.2.1 hfs hr7.lt))
                  have HR7 := Lib.hid hr7
                  have LB7 := Lib.hid lb7
                  have HH7 := Lib.hid hh7
                  have HS7 := Lib.hid hs7
                  have KK7 := Lib.hid kk7
                  clear hr7 lb7 lq7 hh7 hs7 kk7 HPN
                  go_wp2_with fail
                  refine HD.out.mono ?_
                  rintro e w8 (⟨b8, o8, c8, rfl, hs8, hf8, hb8⟩)
                  have lb8 := LB7.out.below hb8 LB7.out.lt
                  have hr8 := HR7.out.later hb8
                  have kk8 := kept_below_ KK7.out hb8
                  clear d0 d1 d2 d3 d4 d5 d6 y1 y2 y3 y4 HD
                  have d0 := lb8.cell 0
                  have d1 := lb8.cell 1
                  have d2 := lb8.cell 2
                  have d3 := lb8.cell 3
                  have d4 := lb8.cell 4
                  have d5 := lb8.cell 5
                  simp only [List.getElem?_toArray, List.getElem?_cons_zero, List.getElem?_cons_succ] at d0 d1 d2 d3 d4 d5
                  have f0 := lb8.free 0
                  have f1 := lb8.free 1
                  have f2 := lb8.free 2
                  have f3 := lb8.free 3
                  have f4 := lb8.free 4
                  have f5 := lb8.free 5
                  have d6 := lb8.lt
                  obtain ⟨q1, q2, q3, q4, q5, q6⟩ := rel_same R x.j x.t
                  have HST := Lib.hid (StR.next hr8 lb8 kk8 (by rw [q4]; exact HH7.out.later hb8) hs8 hfh hwg (Nat.le_refl _) q1 q6 q2 q3 q5)
                  clear lb8 hr8 kk8 q1 q2 q3 q4 q5 hs8
                  go_wp2
                  go_meet
                  exact ⟨relV R x.j x.t, relE R x.j x.t, _, _, _, _, _, rfl, rfl, rfl, rfl, by omega, hfh, hf8, HST⟩
              · have e0 : (wrap64 ((IntKind.u64.wrap x.k).tmod 5) == 0) = false := by rw [beq_eq_false_iff_ne]; exact k0
                have e1 : (wrap64 ((IntKind.u64.wrap x.k).tmod 5) == 1) = false := by rw [beq_eq_false_iff_ne]; exact k1
                have e2 : (wrap64 ((IntKind.u64.wrap x.k).tmod 5) == 2) = false := by rw [beq_eq_false_iff_ne]; exact k2
                have e3 : (wrap64 ((IntKind.u64.wrap x.k).tmod 5) == 3) = false := by rw [beq_eq_false_iff_ne]; exact k3
                clear e k0 k1 k2 k3
                as_aux_lemma =>
                  have HC := Lib.hid ((rgClose HPN.out.1.1 rfl))
                  go_wp2_with fail
                  refine HC.out.mono ?_
                  rintro e w7 ⟨rfl, hr7, hk7⟩
                  obtain ⟨_, lb7, lq7, hh7, hs7, kk7⟩ := HPN.out.1.own hfh hwg hqg hfs hr7 hk7
                  clear HC
                  clear d0 d1 d2 d3 d4 d5 d6 y0 y1 y2 y3 y4
                  have d0 := lb7.cell 0
                  have d1 := lb7.cell 1
                  have d2 := lb7.cell 2
                  have d3 := lb7.cell 3
                  have d4 := lb7.cell 4
                  have d5 := lb7.cell 5
                  have y1 := lq7.cell 1
                  have y2 := lq7.cell 2
                  have y3 := lq7.cell 3
                  simp only [List.getElem?_toArray, List.getElem?_cons_zero, List.getElem?_cons_succ] at d0 d1 d2 d3 d4 d5 y1 y2 y3
                  have d6 := lb7.lt
                  have y4 := lq7.lt
                  have HST := Lib.hid (StR.shut hr7 lb7 kk7 hh7 hs7 hfh hwg (Nat.le_refl _))
                  have f3 := lb7.free 3
                  clear hr7 lb7 kk7 hh7 hs7 lq7
                  go_wp2
                  go_meet
                  exact ⟨0, 0, _, _, _, _, _, rfl, rfl, rfl, rfl, by simp, hfh, hfs, HST⟩
            case rest =>
              obtain ⟨V, E, R', Ah', ch', As', cs', rfl, rfl, rfl, rfl, htl', hfh', hfs', hst'⟩ := hcut
              clear HPN HX HROK hfh hfs d0 d1 d2 d3 d4 d5 d6 y0 y1 y2 y3 y4 htm
              go_wp2_with fail
              have hPN : StR w wc.drew w.heap.size g R' Ah' ch' As' cs' := hst'.out.later (below_drewN (Below.refl _ _) 1)
              refine wp_region_held_drew (S := fun y => StR w y w.heap.size g R' Ah' ch' As' cs') (by kernel_rfl) hPN (fun hHeld => ?_)
              try simp only [Act.put, List.setIfInBounds_toArray, List.set_cons_zero, List.set_cons_succ]
              clear hPN hst'
              generalize wc.drew = wd at *
              as_aux_lemma =>
                refine wpAnyH_take (i := 0) (v := (.int .u64 V)) rfl (by kernel_rfl) (by kernel_rfl) (by kernel_rfl) (fun _ _ _ h => h) (Or.inl ⟨by rfl, fun w h => by (simp only [List.getElem_toArray, List.getElem_cons_succ, List.getElem_cons_zero]; clear h; go_simp)⟩) (by assumption) ?_
                simp only [Act.put, List.getElem_toArray, List.getElem_cons_succ, List.getElem_cons_zero, List.setIfInBounds_toArray, List.set_cons_zero, List.set_cons_succ]
                refine wpAnyH_take (i := 1) (v := (.int .u64 V)) rfl (by kernel_rfl) (by kernel_rfl) (by kernel_rfl) (fun _ _ _ h => h) (Or.inl ⟨by rfl, fun w h => by (simp only [List.getElem_toArray, List.getElem_cons_succ, List.getElem_cons_zero]; clear h; go_simp)⟩) (by assumption) ?_
                simp only [Act.put, List.getElem_toArray, List.getElem_cons_succ, List.getElem_cons_zero, List.setIfInBounds_toArray, List.set_cons_zero, List.set_cons_succ]
                refine wpAnyH_take (i := 2) (v := ((.bool false))) rfl (by kernel_rfl) (by kernel_rfl) (by kernel_rfl) (fun _ _ _ h => h) (Or.inl ⟨by rfl, fun w h => by (simp only [List.getElem_toArray, List.getElem_cons_succ, List.getElem_cons_zero]; clear h; go_simp)⟩) (by assumption) ?_
                simp only [Act.put, List.getElem_toArray, List.getElem_cons_succ, List.getElem_cons_zero, List.setIfInBounds_toArray, List.set_cons_zero, List.set_cons_succ]
                refine wpAnyH_take (i := 3) (v := (.bool false)) rfl (by kernel_rfl) (by kernel_rfl) (by kernel_rfl) (fun _ _ _ h => h) (Or.inl ⟨by rfl, fun w h => by (simp only [List.getElem_toArray, List.getElem_cons_succ, List.getElem_cons_zero]; clear h; go_simp)⟩) (by assumption) ?_
                simp only [Act.put, List.getElem_toArray, List.getElem_cons_succ, List.getElem_cons_zero, List.setIfInBounds_toArray, List.set_cons_zero, List.set_cons_succ]
                refine wpAnyH_take (i := 4) (v := (.int .i64 E)) rfl (by kernel_rfl) (by kernel_rfl) (by kernel_rfl) (fun _ _ _ h => h) (Or.inl ⟨by rfl, fun w h => by (simp only [List.getElem_toArray, List.getElem_cons_succ, List.getElem_cons_zero]; clear h; go_simp)⟩) (by assumption) ?_
                simp only [Act.put, List.getElem_toArray, List.getElem_cons_succ, List.getElem_cons_zero, List.setIfInBounds_toArray, List.set_cons_zero, List.set_cons_succ]
                refine wpAnyH_take (i := 5) (v := (.int .i64 E)) rfl (by kernel_rfl) (by kernel_rfl) (by kernel_rfl) (fun _ _ _ h => h) (Or.inl ⟨by rfl, fun w h => by (simp only [List.getElem_toArray, List.getElem_cons_succ, List.getElem_cons_zero]; clear h; go_simp)⟩) (by assumption) ?_
                simp only [Act.put, List.getElem_toArray, List.getElem_cons_succ, List.getElem_cons_zero, List.setIfInBounds_toArray, List.set_cons_zero, List.set_cons_succ]
                refine wpAnyH_take (i := 6) (v := ((.bool false))) rfl (by kernel_rfl) (by kernel_rfl) (by kernel_rfl) (fun _ _ _ h => h) (Or.inl ⟨by rfl, fun w h => by (simp only [List.getElem_toArray, List.getElem_cons_succ, List.getElem_cons_zero]; clear h; go_simp)⟩) (by assumption) ?_
                simp only [Act.put, List.getElem_toArray, List.getElem_cons_succ, List.getElem_cons_zero, List.setIfInBounds_toArray, List.set_cons_zero, List.set_cons_succ]
                refine wpAnyH_take (i := 7) (v := ((.bool false))) rfl (by kernel_rfl) (by kernel_rfl) (by kernel_rfl) (fun _ _ _ h => h) (Or.inl ⟨by rfl, fun w h => by (simp only [List.getElem_toArray, List.getElem_cons_succ, List.getElem_cons_zero]; clear h; go_simp)⟩) (by assumption) ?_
                simp only [Act.put, List.getElem_toArray, List.getElem_cons_succ, List.getElem_cons_zero, List.setIfInBounds_toArray, List.set_cons_zero, List.set_cons_succ]
                refine wpAnyH_take (i := 8) (v := (.bool false)) rfl (by kernel_rfl) (by kernel_rfl) (by kernel_rfl) (fun _ _ _ h => h) (Or.inl ⟨by rfl, fun w h => by (simp only [List.getElem_toArray, List.getElem_cons_succ, List.getElem_cons_zero]; clear h; go_simp)⟩) (by assumption) ?_
                simp only [Act.put, List.getElem_toArray, List.getElem_cons_succ, List.getElem_cons_zero, List.setIfInBounds_toArray, List.set_cons_zero, List.set_cons_succ]
                refine wpAnyH_take (i := 9) (v := (.pointer (some ⟨g, 0, none⟩))) rfl (by kernel_rfl) (by kernel_rfl) (by kernel_rfl) (fun _ _ _ h => h) (Or.inl ⟨by rfl, fun w h => by (simp only [List.getElem_toArray, List.getElem_cons_succ, List.getElem_cons_zero]; clear h; go_simp)⟩) (by assumption) ?_
                simp only [Act.put, List.getElem_toArray, List.getElem_cons_succ, List.getElem_cons_zero, List.setIfInBounds_toArray, List.set_cons_zero, List.set_cons_succ]
                refine wpAnyH_take (i := 11) (v := (.agg #[.int .u64 (R'.cap : Int), .int .u64 (R'.tail : Int), .slice Ah' R'.rd ch', .bool R'.cl, .slice (some As') R'.L.length cs', .int .i64 (R'.rd : Int)])) rfl (by kernel_rfl) (by kernel_rfl) (by kernel_rfl) (fun _ _ _ h => h) (Or.inl ⟨by rfl, fun w h => by (simp only [List.getElem_toArray, List.getElem_cons_succ, List.getElem_cons_zero]; obtain ⟨k0, k1, k2, k3, k4, k5, _⟩ := h.boxed; clear h; go_simp)⟩) (by assumption) ?_
                simp only [Act.put, List.getElem_toArray, List.getElem_cons_succ, List.getElem_cons_zero, List.setIfInBounds_toArray, List.set_cons_zero, List.set_cons_succ]
                refine wpAnyH_ready (rs := [10]) (by kernel_rfl) (by simp) ?_
                refine AllReadyH.cons rfl (fun K hK => ?_) AllReadyH.nil
                rw [if_pos (by rfl)]
                go_wp2_with fail
                refine (rgState hHeld.1 rfl).mono ?_
                rintro e w' ⟨A1, c1, A2, c2, rfl, o1, o2, hbN⟩
                dsimp only
                have hN := hHeld.later hbN
                have p1 := Lib.hid (SeqAt.of_owns o1)
                have p2 := Lib.hid (SeqS.of_owns o2)
                refine hK.out _ _ hN (fun _ => ?_)
                clear hK K hHeld hbN o1 o2
                try simp only [Act.put, List.setIfInBounds_toArray, List.set_cons_zero, List.set_cons_succ]
                have hHeld := hN
                clear hN
                refine wpAnyH_ready (rs := [12]) (by kernel_rfl) (by simp) ?_
                refine AllReadyH.cons rfl (fun K hK => ?_) AllReadyH.nil
                rw [if_pos (by rfl)]
                go_wp2_with fail
                refine (ref13State hHeld.1.1 hHeld.2.2.1 hHeld.2.2.2.1).mono ?_
                rintro e w9 ⟨B1, d1, B2, d2, rfl, p3, p4, hbN⟩
                dsimp only
                have hN := hHeld.later hbN
                have p1 := Lib.hid (p1.out.later_ hbN)
                have p2 := Lib.hid (p2.out.later hbN)
                have p3 := Lib.hid p3
                have p4 := Lib.hid p4
                refine hK.out _ _ hN (fun _ => ?_)
                clear hK K hHeld hbN
                try simp only [Act.put, List.setIfInBounds_toArray, List.set_cons_zero, List.set_cons_succ]
                have hHeld := hN
                clear hN
                refine wpAnyH_ready (rs := [13]) (by kernel_rfl) (by simp) ?_
                refine AllReadyH.cons rfl (fun K hK => ?_) AllReadyH.nil
                rw [if_pos (by rfl)]
                go_wp2_with fail
                refine ((st_same hHeld.1.1 A1 B1 A2 B2 c1 d1 c2 d2 _ p1.out p3.out p2.out p4.out)).mono ?_
                rintro e w' ⟨rfl, hbN⟩
                dsimp only
                have hN := hHeld.later hbN
                refine hK.out _ _ hN (fun _ => ?_)
                clear hK K hHeld hbN
                try simp only [Act.put, List.setIfInBounds_toArray, List.set_cons_zero, List.set_cons_succ]
                have hHeld := hN
                clear hN
                refine wpAnyH_take (i := 14) (v := ((.bool false))) rfl (by kernel_rfl) (by kernel_rfl) (by kernel_rfl) (fun _ _ _ h => h) (Or.inl ⟨by rfl, fun w h => by (simp only [List.getElem_toArray, List.getElem_cons_succ, List.getElem_cons_zero]; clear h; go_simp)⟩) (by assumption) ?_
                simp only [Act.put, List.getElem_toArray, List.getElem_cons_succ, List.getElem_cons_zero, List.setIfInBounds_toArray, List.set_cons_zero, List.set_cons_succ]
                refine wpAnyH_take (i := 15) (v := ((.bool false))) rfl (by kernel_rfl) (by kernel_rfl) (by kernel_rfl) (fun _ _ _ h => h) (Or.inl ⟨by rfl, fun w h => by (simp only [List.getElem_toArray, List.getElem_cons_succ, List.getElem_cons_zero]; clear h; go_simp)⟩) (by assumption) ?_
                simp only [Act.put, List.getElem_toArray, List.getElem_cons_succ, List.getElem_cons_zero, List.setIfInBounds_toArray, List.set_cons_zero, List.set_cons_succ]
                refine wpAnyH_done (by kernel_rfl) ?_ _
                go_wp2
                go_roundw
                case rel => exact ⟨k + 1, R', Ah', ch', As', cs', by omega, by go_num, by omega, hfh', hfs', hHeld⟩
                case measure => simp [intOf]; omega
    · obtain rfl : k = ops.length := by omega
      have hkk := hst.out.2.2.2.2
      clear hst
      go_wp2
      go_ret
      exact ⟨rfl, hkk⟩
end Go.Proofs.Ytahojmioonpodaa
