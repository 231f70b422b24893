/-
  A source's program (layer 9), read whole.
-/
import Derived.Test.YtebgcehcnenjiaaDoorSrc3
namespace Go.Proofs.YtebgcehcnenjiaaDoor
open Go.RowKit
set_option linter.unusedVariables false
set_option linter.unusedSimpArgs false
theorem thsRd_get (s : ByteArray) (i : Nat) (f : Bool) {n : Nat} : ∀ {k : Nat}, k < n → (thsRd s i f n).1[k]? = some (thRd s (thsRd s i f k).2.1 (thsRd s i f k).2.2).1 := by
  induction n with
  | zero => intro k h; omega
  | succ n ih =>
    intro k h
    have hl := thsRd_length s i f n
    show ((thsRd s i f n).1 ++ [_])[k]? = _
    by_cases e : k = n
    · subst e
      rw [List.getElem?_append_right (by omega), hl, Nat.sub_self]; rfl
    · rw [List.getElem?_append_left (by omega)]
      exact ih (by omega)
theorem byV_lt (s : ByteArray) (i : Nat) : byV s i < 256 := by
  unfold byV
  split
  · rename_i h
    exact (s[i]'h).toNat_lt
  · omega
theorem two_apart {w : World} {G g : Nat} {s : ByteArray} {i : Nat} {f : Bool} (h : InAt w G g s i f) {r : Nat} {t : TypeId} {cur : Array Value} (hl : Lies w r t cur) (h1 : t ≠ 79) (h2 : t ≠ 88) : ¬ twoRows g G r := by
  rintro (e | e)
  · subst e; exact h2 (hl.same h.2.1).1
  · subst e; exact h1 (hl.same h.1).1
/-- How memory stands in the course of a thread's reading. -/
structure SpS (w0 wr w : World) (G g : Nat) (vr : Value) (L : List Ri) (ts : List (List In)) (vs : List Value) : Prop where
  kep : Kept (twoRows g G) w0 w
  le : wr.heap.size ≤ w.heap.size
  rr : w.ownsRow w0.heap.size 67 3 vr L.length (rowsOf riF L)
  rlt : ∀ r, vr.ownBlock = some r → r < wr.heap.size
  inn : Inners w w0.heap.size wr.heap.size ts vs
  res : Lies w w0.heap.size 35 #[.slice none 0 0, .slice none 0 0]
def spV (w0 wr : World) (G g : Nat) (s : ByteArray) (j : Nat) (fl : Bool) (j' : Nat) (fl' : Bool) (n3 k : Nat) (vr vt : Value) (vs : List Value) (l : List In) : Nat → Value → World → Prop
  | 0, v, _ => v = .pointer (some ⟨n3, 1, none⟩)
  | 1, v, _ => v = vt
  | 2, v, _ => v = .pointer (some ⟨G, 0, none⟩)
  | 3, v, w => OwnIn w wr.heap.size v l ∧ InAt w G g s j' fl'
  | 4, v, w => ∃ b u, v = .slice (some ⟨b, 0, none⟩) 1 1 ∧ Lies w b 51 #[u] ∧ OwnIn w wr.heap.size u l ∧ InAt w G g s j' fl'
  | 5, v, w => ∃ u, w.ownsRow w0.heap.size 51 1 v (k + 1) (vs ++ [u]) ∧ OwnIn w wr.heap.size u l ∧ InAt w G g s j' fl'
  | 6, v, _ => v = .pointer (some ⟨n3, 1, none⟩)
  | 7, _, w => ∃ v u, Lies w n3 35 #[vr, v] ∧ w.ownsRow w0.heap.size 51 1 v (k + 1) (vs ++ [u]) ∧ OwnIn w wr.heap.size u l ∧ InAt w G g s j' fl'
  | 8, _, w => Lies w n3 35 #[vr, vt]
  | 9, _, w => w.ownsRow w0.heap.size 51 1 vt k vs
  | 10, _, w => InAt w G g s j fl
  | _, _, _ => True
def spLow : Nat → Bool
  | 3 => false
  | 4 => false
  | 5 => false
  | 7 => false
  | 10 => false
  | _ => true
section
variable {w0 wr w w' : World} {G g : Nat} {s : ByteArray} {j0 j1 : Nat} {f0 f1 : Bool} {n3 k : Nat} {vr vt : Value} {L : List Ri} {ts : List (List In)} {vs : List Value} {l : List In}
theorem spV_low {S : Nat → Prop} (hk : Kept S w w') (h1 : ∀ cs, Lies w n3 35 cs → ¬ S n3) (h2 : ∀ r cur, vt.ownBlock = some r → Lies w r 51 cur → ¬ S r) {j : Nat} {u : Value} (hj : spLow j = true) (h : spV w0 wr G g s j0 f0 j1 f1 n3 k vr vt vs l j u w) : spV w0 wr G g s j0 f0 j1 f1 n3 k vr vt vs l j u w' := by
  match j, hj with
  | 0, _ => exact h
  | 1, _ => exact h
  | 2, _ => exact h
  | 6, _ => exact h
  | 8, _ => exact Lies.kept h hk (h1 _ h)
  | 9, _ => exact owns_kept h hk h2
  | _ + 11, _ => trivial
theorem spV_low2 {S : Nat → Prop} (hk : Kept S w w') (h1 : ∀ cs, Lies w n3 35 cs → ¬ S n3) {j : Nat} {u : Value} (hj : (spLow j && j != 9) = true) (h : spV w0 wr G g s j0 f0 j1 f1 n3 k vr vt vs l j u w) : spV w0 wr G g s j0 f0 j1 f1 n3 k vr vt vs l j u w' := by
  match j, hj with
  | 0, _ => exact h
  | 1, _ => exact h
  | 2, _ => exact h
  | 6, _ => exact h
  | 8, _ => exact Lies.kept h hk (h1 _ h)
  | _ + 11, _ => trivial
theorem SpS.kept {S : Nat → Prop} (h : SpS w0 wr w G g vr L ts vs) (hk : Kept S w w') (h1 : ∀ k, k < w0.heap.size → S k → twoRows g G k) (h2 : ∀ r cur, r < wr.heap.size → Lies w r 67 cur → ¬ S r) (h3 : ∀ r cur, r < wr.heap.size → Lies w r 24 cur → ¬ S r) (h4 : ¬ S w0.heap.size) : SpS w0 wr w' G g vr L ts vs :=
  ⟨h.kep.trans hk h1, Nat.le_trans h.le hk.size, owns_kept h.rr hk (fun r cur hr hl => h2 r cur (h.rlt r hr) hl), h.rlt, h.inn.kept hk h3, h.res.kept hk h4⟩
end
def PrQ (w : World) (G g : Nat) (s : ByteArray) (q : List Ri × Nat × Bool) (e : Ending) (w' : World) : Prop :=
  ∃ vr vt vs, e = .returned (.agg #[vr, vt]) ∧ w'.ownsRow w.heap.size 67 3 vr q.1.length (rowsOf riF q.1) ∧ w'.ownsRow w.heap.size 51 1 vt (rdT s q.2.1 q.2.2).1.length vs ∧ Inners w' w.heap.size w'.heap.size (rdT s q.2.1 q.2.2).1 vs ∧
    InAt w' G g s (rdT s q.2.1 q.2.2).2.1 (rdT s q.2.1 q.2.2).2.2 ∧ Kept (twoRows g G) w w'
/-- What a source's program leaves. -/
def PrPost (w : World) (G g : Nat) (s : ByteArray) (i : Nat) (f : Bool) (e : Ending) (w' : World) : Prop :=
  ∃ vr vt vs, e = .returned (.agg #[vr, vt]) ∧ w'.ownsRow w.heap.size 67 3 vr (prRd s i f).1.rs.length (rowsOf riF (prRd s i f).1.rs) ∧ w'.ownsRow w.heap.size 51 1 vt (prRd s i f).1.ts.length vs ∧ Inners w' w.heap.size w'.heap.size (prRd s i f).1.ts vs ∧
    InAt w' G g s (prRd s i f).2.1 (prRd s i f).2.2 ∧ Kept (twoRows g G) w w'
set_option maxHeartbeats 8000000 in
set_option maxRecDepth 100000 in
theorem srcProgram (G g : Nat) (s : ByteArray) (i : Nat) (f : Bool) (w : World) (h : InAt w G g s i f) : Calls Tryd.prog 44 #[.pointer (some ⟨G, 0, none⟩)] w (PrPost w G g s i f) := by
  have hGl := h.1.lt
  have hgl := h.2.1.lt
  have HP : Hid (PrPost w G g s i f = PrQ w G g s (rdR s i f)) := rfl
  have hw0 : InAt ((w.alloc (.cells #[.slice none 0 0, .slice none 0 0] 35)).alloc (.cells #[.slice none 0 0, .slice none 0 0] 35)) G g s i f := (h.kept' (Kept.alloc noRow _ _) (fun h => h) (fun h => h)).kept' (Kept.alloc noRow _ _) (fun h => h) (fun h => h)
  have hk0 : Kept (twoRows g G) w ((w.alloc (.cells #[.slice none 0 0, .slice none 0 0] 35)).alloc (.cells #[.slice none 0 0, .slice none 0 0] 35)) := (Kept.alloc _ _ _).trans (Kept.alloc (twoRows g G) _ _) (fun _ _ h => h)
  have l0 := (Lies.made w 35 #[.slice none 0 0, .slice none 0 0]).alloc (.cells #[.slice none 0 0, .slice none 0 0] 35)
  have l1 := Lies.made (w.alloc (.cells #[.slice none 0 0, .slice none 0 0] 35)) 35 #[.slice none 0 0, .slice none 0 0]
  rw [World.size_alloc] at l1
  have HI := Lib.hid hw0
  have HK := Lib.hid hk0
  have HR := Lib.hid l0
  have HB := Lib.hid l1
  clear h hw0 hk0 l0 l1
  rw [HP.out]
  have HDR : Hid (rdR s i f = risRd s (byI s i) (byF s i f || decide (8 < byV s i)) (coV (byV s i) 8 (byF s i f))) := rfl
  generalize rdR s i f = QR at *
  go_enter Tryd.func44, Tryd.ntmps44
  go_wp2_with fail
  generalize (w.alloc (.cells #[.slice none 0 0, .slice none 0 0] 35)).alloc (.cells #[.slice none 0 0, .slice none 0 0] 35) = w1 at *
  refine (srcByte G g s i f w1 HI.out).mono ?_
  rintro e w2 ⟨rfl, hin, hk⟩
  replace HI := Lib.hid hin
  replace HR := Lib.hid (HR.out.kept hk (by rintro (e | e) <;> omega))
  replace HB := Lib.hid (HB.out.kept hk (by rintro (e | e) <;> omega))
  replace HK := Lib.hid (HK.out.trans hk (fun _ _ e => e))
  clear hin hk
  have hbv := byV_lt s i
  have hw : IntKind.u64.wrap ((byV s i : Nat) : Int) = ((byV s i : Nat) : Int) := IntWalk.u64_in _ (by omega)
  go_wp2_with fail
  have hcl := coV_le (byV s i) 8 (byF s i f)
  refine (srcCount G g s _ _ (byV s i) 8 w2 HI.out (by omega)).mono ?_
  rintro e w3 ⟨rfl, hin, hk⟩
  replace HI := Lib.hid hin
  replace HR := Lib.hid (HR.out.kept hk (by rintro (e | e) <;> omega))
  replace HB := Lib.hid (HB.out.kept hk (by rintro (e | e) <;> omega))
  replace HK := Lib.hid (HK.out.trans hk (fun _ _ e => e))
  clear hin hk hw hbv
  generalize coV (byV s i) 8 (byF s i f) = C at *
  generalize (byF s i f || decide (8 < byV s i)) = F0 at *
  generalize byI s i = J0 at *
  go_wp2_with fail
  go_loopw [9] (fun u wr => ∃ (k : Nat) (vr : Value), k ≤ C ∧ u = .int .i64 k ∧ Hid (wr.ownsRow w.heap.size 67 3 vr k (rowsOf riF (risRd s J0 F0 k).1)) ∧ Hid (InAt wr G g s (risRd s J0 F0 k).2.1 (risRd s J0 F0 k).2.2) ∧ Hid (Kept (twoRows g G) w wr) ∧ Hid (Lies wr w.heap.size 35 #[.slice none 0 0, .slice none 0 0]) ∧ Hid (Lies wr (w.heap.size + 1) 35 #[vr, .slice none 0 0])) (fun u _ => C - (intOf u).toNat)
  case atStart => exact ⟨0, .slice none 0 0, by omega, rfl, World.ownsRow_nil _ _ _ _, HI, HK, HR, HB⟩
  case round =>
    clear HI HK HR HB
    obtain ⟨k, vr, hk, rfl, HO, HI, HK, HR, HB⟩ := hrel
    by_cases hlt : k < C
    · have hki : (k : Int) < (C : Int) := by omega
      have HN : Hid (risRd s J0 F0 (k + 1) = ((risRd s J0 F0 k).1 ++ [(riRd s (risRd s J0 F0 k).2.1 (risRd s J0 F0 k).2.2).1], (riRd s (risRd s J0 F0 k).2.1 (risRd s J0 F0 k).2.2).2)) := rfl
      have hql := risRd_length s J0 F0 k
      generalize risRd s J0 F0 k = q at *
      obtain ⟨L, j, fl⟩ := q
      dsimp only at HO HI HN hql
      subst hql
      go_wp2_with fail
      refine wp_region_rely (fun q => RrS w q G g s j fl) (rrV w G g s j fl (w.heap.size + 1) vr L (riRd s j fl).1) [some 11, some 12, some 13, some 14, some 15, some 16, some 17, some 18, some 19, some 20, some 21, some 22, none] [[], [0, 13], [], [2, 15], [], [4, 3, 16], [], [6, 5, 17], [3, 5, 7], [8], [1, 9, 14], [], [11, 10, 13]] [[], [0], [], [2, 15], [], [2, 4, 15, 16], [], [4, 6, 16, 17], [2, 3, 4, 5, 6, 15, 16, 17], [8], [0, 1, 6, 8, 9, 14, 17], [0, 1, 2, 3, 4, 5, 6, 8, 9, 14, 15, 16, 17], [0, 1, 2, 3, 4, 5, 6, 8, 9, 10, 11, 13, 14, 15, 16, 17]] [[2, 3, 4, 5, 6, 7, 8, 9, 10, 13, 14, 15, 16, 17], [2, 3, 4, 5, 6, 7, 8, 9, 13, 14, 15, 16, 17], [0, 1, 4, 5, 6, 7, 8, 9, 10, 13, 14, 15, 16, 17], [0, 1, 4, 6, 7, 9, 10, 13, 14, 16, 17], [0, 1, 2, 3, 6, 7, 8, 9, 10, 13, 14, 15, 16, 17], [0, 1, 3, 6, 9, 10, 13, 14, 17], [0, 1, 2, 3, 4, 5, 8, 9, 10, 13, 14, 15, 16, 17], [0, 1, 3, 5, 9, 13, 14], [0, 1, 7, 10, 13, 14], [0, 1, 7, 13, 14], [2, 3, 5, 7, 13, 15], [7, 10, 13], [7]] [0, 1, 2, 3, 4, 5, 6, 7, 8, 9, 10, 11, 12] 18 (by kernel_rfl) (by kernel_rfl) (by kernel_rfl) (by kernel_rfl) ?rS ?rI ?rT ?rE
      case rS => exact ⟨HK.out.trans (Kept.drew _ _) (fun _ _ h => h), ⟨0, by omega, HI.out⟩, HR.out⟩
      case rI =>
        intro a h1 h2
        have h2 : 13 ≤ a := h2
        have : a = 13 ∨ a = 14 ∨ a = 15 ∨ a = 16 ∨ a = 17 := by omega
        rcases this with rfl | rfl | rfl | rfl | rfl
        · exact Lies.drew HB.out
        · exact owns_drew HO.out
        · exact ⟨0, by omega, HI.out⟩
        · exact ⟨0, by omega, HI.out⟩
        · exact ⟨0, by omega, HI.out⟩
      case rT =>
        refine RelySteps.cons (RelyStep.mk [] [2, 3, 4, 5, 6, 7, 8, 9, 10, 13, 14, 15, 16, 17] rfl rfl rfl (fun xv wS hS hV bq hb K hK => ?_)) ?_
        · clear hV
          simp only [putsOf, List.foldl_cons, List.foldl_nil, List.getD_cons_zero, List.getD_cons_succ, List.getD_nil, Act.put, List.setIfInBounds_toArray, List.set_cons_zero, List.set_cons_succ] at hb
          subst hb
          rw [if_pos (by rfl)]
          go_wp2_with fail
          exact hK.out _ _ ⟨_, rfl, hS, rfl, AllP.same _⟩
        refine RelySteps.cons (RelyStep.mk [0, 13] [2, 3, 4, 5, 6, 7, 8, 9, 13, 14, 15, 16, 17] rfl rfl rfl (fun xv wS hS hV bq hb K hK => ?_)) ?_
        · obtain ⟨h0, h13, _⟩ := hV
          have h0 : xv 0 = _ := h0
          simp only [putsOf, List.foldl_cons, List.foldl_nil, List.getD_cons_zero, List.getD_cons_succ, List.getD_nil, Act.put, List.setIfInBounds_toArray, List.set_cons_zero, List.set_cons_succ, h0] at hb
          clear h0
          generalize xv 13 = y13 at *
          subst hb
          rw [if_pos (by rfl)]
          (have q1 : Lies wS (w.heap.size + 1) _ _ := h13; have c1 := (q1.cell 0).trans (show _ = some vr from rfl); have c2 := q1.lt; clear q1 h13)
          go_wp2_with fail
          exact hK.out _ _ ⟨_, rfl, hS, rfl, AllP.same _⟩
        refine RelySteps.cons (RelyStep.mk [] [0, 1, 4, 5, 6, 7, 8, 9, 10, 13, 14, 15, 16, 17] rfl rfl rfl (fun xv wS hS hV bq hb K hK => ?_)) ?_
        · clear hV
          simp only [putsOf, List.foldl_cons, List.foldl_nil, List.getD_cons_zero, List.getD_cons_succ, List.getD_nil, Act.put, List.setIfInBounds_toArray, List.set_cons_zero, List.set_cons_succ] at hb
          subst hb
          rw [if_pos (by rfl)]
          go_wp2_with fail
          exact hK.out _ _ ⟨_, rfl, hS, rfl, AllP.same _⟩
        refine RelySteps.cons (RelyStep.mk [2, 15] [0, 1, 4, 6, 7, 9, 10, 13, 14, 16, 17] rfl rfl rfl (fun xv wS hS hV bq hb K hK => ?_)) ?_
        · obtain ⟨h2, h15, _⟩ := hV
          have h2 : xv 2 = _ := h2
          simp only [putsOf, List.foldl_cons, List.foldl_nil, List.getD_cons_zero, List.getD_cons_succ, List.getD_nil, Act.put, List.setIfInBounds_toArray, List.set_cons_zero, List.set_cons_succ, h2] at hb
          clear h2
          generalize xv 15 = y15 at *
          subst hb
          rw [if_pos (by rfl)]
          have HSS := Lib.hid hS
          have h15 : InLe wS G g s j fl 0 := h15
          have ha : InAt wS G g s j fl := by obtain ⟨m, hm, h⟩ := h15; obtain rfl : m = 0 := by omega
                                             exact h
          have HA := Lib.hid ha
          clear hS h15 ha
          go_wp2_with fail
          refine (srcByte G g s j fl wS HA.out).mono ?_
          rintro e w5 ⟨rfl, hin, hk5⟩
          exact hK.out _ _ ⟨_, rfl, HSS.out.kept hk5 (fun _ _ h => h) (by rintro (e | e) <;> omega) ⟨1, by omega, hin⟩, ⟨rfl, ⟨1, by omega, hin⟩⟩, AllP.of _ (fun a ha u h => rrV_call (k := 0) hk5 HA.out hin (by have := all_in (fun a => decide (a < 15 ∨ 15 < a)) rfl ha; simpa using this) h)⟩
        refine RelySteps.cons (RelyStep.mk [] [0, 1, 2, 3, 6, 7, 8, 9, 10, 13, 14, 15, 16, 17] rfl rfl rfl (fun xv wS hS hV bq hb K hK => ?_)) ?_
        · clear hV
          simp only [putsOf, List.foldl_cons, List.foldl_nil, List.getD_cons_zero, List.getD_cons_succ, List.getD_nil, Act.put, List.setIfInBounds_toArray, List.set_cons_zero, List.set_cons_succ] at hb
          subst hb
          rw [if_pos (by rfl)]
          go_wp2_with fail
          exact hK.out _ _ ⟨_, rfl, hS, rfl, AllP.same _⟩
        refine RelySteps.cons (RelyStep.mk [4, 3, 16] [0, 1, 3, 6, 9, 10, 13, 14, 17] rfl rfl rfl (fun xv wS hS hV bq hb K hK => ?_)) ?_
        · obtain ⟨h4, h3, h16, _⟩ := hV
          have h4 : xv 4 = _ := h4
          simp only [putsOf, List.foldl_cons, List.foldl_nil, List.getD_cons_zero, List.getD_cons_succ, List.getD_nil, Act.put, List.setIfInBounds_toArray, List.set_cons_zero, List.set_cons_succ, h4] at hb
          clear h4
          generalize xv 3 = y3 at *
          generalize xv 16 = y16 at *
          subst hb
          rw [if_pos (by rfl)]
          have HSS := Lib.hid hS
          have ha := in_is h3.2 (show InLe wS G g s j fl 1 from h16)
          have HA := Lib.hid ha
          clear hS h3 h16 ha
          go_wp2_with fail
          refine (srcByte G g s _ _ wS HA.out).mono ?_
          rintro e w5 ⟨rfl, hin, hk5⟩
          exact hK.out _ _ ⟨_, rfl, HSS.out.kept hk5 (fun _ _ h => h) (by rintro (e | e) <;> omega) ⟨2, by omega, hin⟩, ⟨rfl, ⟨2, by omega, hin⟩⟩, AllP.of _ (fun a ha u h => rrV_call (k := 1) hk5 HA.out hin (by have := all_in (fun a => decide (a < 15 ∨ 16 < a)) rfl ha; simpa using this) h)⟩
        refine RelySteps.cons (RelyStep.mk [] [0, 1, 2, 3, 4, 5, 8, 9, 10, 13, 14, 15, 16, 17] rfl rfl rfl (fun xv wS hS hV bq hb K hK => ?_)) ?_
        · clear hV
          simp only [putsOf, List.foldl_cons, List.foldl_nil, List.getD_cons_zero, List.getD_cons_succ, List.getD_nil, Act.put, List.setIfInBounds_toArray, List.set_cons_zero, List.set_cons_succ] at hb
          subst hb
          rw [if_pos (by rfl)]
          go_wp2_with fail
          exact hK.out _ _ ⟨_, rfl, hS, rfl, AllP.same _⟩
        refine RelySteps.cons (RelyStep.mk [6, 5, 17] [0, 1, 3, 5, 9, 13, 14] rfl rfl rfl (fun xv wS hS hV bq hb K hK => ?_)) ?_
        · obtain ⟨h6, h5, h17, _⟩ := hV
          have h6 : xv 6 = _ := h6
          simp only [putsOf, List.foldl_cons, List.foldl_nil, List.getD_cons_zero, List.getD_cons_succ, List.getD_nil, Act.put, List.setIfInBounds_toArray, List.set_cons_zero, List.set_cons_succ, h6] at hb
          clear h6
          generalize xv 5 = y5 at *
          generalize xv 17 = y17 at *
          subst hb
          rw [if_pos (by rfl)]
          have HSS := Lib.hid hS
          have ha := in_is h5.2 (show InLe wS G g s j fl 2 from h17)
          have HA := Lib.hid ha
          clear hS h5 h17 ha
          go_wp2_with fail
          refine (srcByte G g s _ _ wS HA.out).mono ?_
          rintro e w5 ⟨rfl, hin, hk5⟩
          exact hK.out _ _ ⟨_, rfl, HSS.out.kept hk5 (fun _ _ h => h) (by rintro (e | e) <;> omega) ⟨3, by omega, hin⟩, ⟨rfl, ⟨3, by omega, hin⟩⟩, AllP.of _ (fun a ha u h => rrV_call (k := 2) hk5 HA.out hin (by have := all_in (fun a => decide (a < 15 ∨ 17 < a)) rfl ha; simpa using this) h)⟩
        refine RelySteps.cons (RelyStep.mk [3, 5, 7] [0, 1, 7, 10, 13, 14] rfl rfl rfl (fun xv wS hS hV bq hb K hK => ?_)) ?_
        · obtain ⟨h3, h5, h7, _⟩ := hV
          simp only [putsOf, List.foldl_cons, List.foldl_nil, List.getD_cons_zero, List.getD_cons_succ, List.getD_nil, Act.put, List.setIfInBounds_toArray, List.set_cons_zero, List.set_cons_succ] at hb
          generalize xv 3 = y3 at *
          generalize xv 5 = y5 at *
          generalize xv 7 = y7 at *
          subst hb
          rw [if_pos (by rfl)]
          (obtain ⟨rfl, _⟩ := h3; obtain ⟨rfl, _⟩ := h5; obtain ⟨rfl, _⟩ := h7)
          go_wp2_with fail
          exact hK.out _ _ ⟨_, rfl, hS, rfl, AllP.same _⟩
        refine RelySteps.cons (RelyStep.mk [8] [0, 1, 7, 13, 14] rfl rfl rfl (fun xv wS hS hV bq hb K hK => ?_)) ?_
        · obtain ⟨h8, _⟩ := hV
          have h8 : xv 8 = _ := h8
          simp only [putsOf, List.foldl_cons, List.foldl_nil, List.getD_cons_zero, List.getD_cons_succ, List.getD_nil, Act.put, List.setIfInBounds_toArray, List.set_cons_zero, List.set_cons_succ, h8] at hb
          clear h8
          subst hb
          rw [if_pos (by rfl)]
          have HSS := Lib.hid hS
          clear hS
          go_wp2_with fail
          exact hK.out _ _ ⟨_, rfl, HSS.out.kept (Kept.alloc noRow wS _) (fun _ _ (h : False) => h.elim) (fun h => h) (by obtain ⟨m, h1, h2⟩ := HSS.out.at_; exact ⟨m, h1, h2.kept' (Kept.alloc noRow wS _) (fun h => h) (fun h => h)⟩), ⟨wS.heap.size, rfl, Lies.made _ _ _⟩, AllP.of _ (fun a _ u h => rrV_alloc _ h)⟩
        refine RelySteps.cons (RelyStep.mk [1, 9, 14] [2, 3, 5, 7, 13, 15] rfl rfl rfl (fun xv wS hS hV bq hb K hK => ?_)) ?_
        · obtain ⟨h1, h9, h14, _⟩ := hV
          have h1 : xv 1 = _ := h1
          simp only [putsOf, List.foldl_cons, List.foldl_nil, List.getD_cons_zero, List.getD_cons_succ, List.getD_nil, Act.put, List.setIfInBounds_toArray, List.set_cons_zero, List.set_cons_succ, h1] at hb
          clear h1
          generalize xv 9 = y9 at *
          generalize xv 14 = y14 at *
          subst hb
          rw [if_pos (by rfl)]
          have HSS := Lib.hid hS
          obtain ⟨b9, rfl, hl9⟩ := h9
          clear hS
          have h14 : wS.ownsRow w.heap.size 67 3 vr L.length (rowsOf riF L) := h14
          refine step_list (ops := #[]) (by rfl) (append_argS wS 3 rfl (.tmp 12) (.tmp 20) 32 rfl w.heap.size 67 _ 24 Tryd.underlying32 Tryd.infoRi rfl (by decide) vr L.length _ rfl h14 (some ⟨b9, 0, none⟩) 1 1 rfl (riF (riRd s j fl).1) ⟨rfl, _, _, rfl, Nat.le_refl _, by unfold maxLen; omega, (fun h => by cases h), fun a u hu => ⟨b9, 0, rfl, by rw [Nat.zero_add, hl9.cell, ← hu]; simp [riF]⟩⟩ (by intro u hu; simp [riF] at hu; rcases hu with rfl | rfl | rfl <;> rfl) (by unfold maxLen; omega) (by omega) (HSS.out.kep.size) ?_)
          intro v' w' ho hb hgr
          have hk5 := Kept.of_grown hgr
          have fi : ∀ a b, InAt wS G g s a b → InAt w' G g s a b := fun a b h => h.kept' hk5 (fun e => own_ne h14 h.1 (by decide) e) (fun e => own_ne h14 h.2.1 (by decide) e)
          exact hK.out _ _ ⟨_, rfl, HSS.out.kept hk5 (fun a ha e => by have := (own_lt h14 e).1; omega) (fun e => own_ne h14 HSS.out.res (by decide) e) (by obtain ⟨m, h1, h2⟩ := HSS.out.at_; exact ⟨m, h1, fi _ _ h2⟩), (by
            show World.ownsRow _ _ _ _ _ _ _
            unfold rowsOf
            rw [List.flatMap_append]
            simpa [rowsOf] using ho), AllP.of _ (fun a ha u h => rrV_low hk5 (fun cs hl e => own_ne h14 hl (by decide) e) fi (all_in rrLow rfl ha) h)⟩
        refine RelySteps.cons (RelyStep.mk [] [7, 10, 13] rfl rfl rfl (fun xv wS hS hV bq hb K hK => ?_)) ?_
        · clear hV
          simp only [putsOf, List.foldl_cons, List.foldl_nil, List.getD_cons_zero, List.getD_cons_succ, List.getD_nil, Act.put, List.setIfInBounds_toArray, List.set_cons_zero, List.set_cons_succ] at hb
          subst hb
          rw [if_pos (by rfl)]
          go_wp2_with fail
          exact hK.out _ _ ⟨_, rfl, hS, rfl, AllP.same _⟩
        refine RelySteps.cons (RelyStep.mk [11, 10, 13] [7] rfl rfl rfl (fun xv wS hS hV bq hb K hK => ?_)) ?_
        · obtain ⟨h11, h10, h13, _⟩ := hV
          have h11 : xv 11 = _ := h11
          simp only [putsOf, List.foldl_cons, List.foldl_nil, List.getD_cons_zero, List.getD_cons_succ, List.getD_nil, Act.put, List.setIfInBounds_toArray, List.set_cons_zero, List.set_cons_succ, h11] at hb
          clear h11
          generalize xv 10 = y10 at *
          generalize xv 13 = y13 at *
          subst hb
          rw [if_pos (by rfl)]
          have HSS := Lib.hid hS
          have ho := h10
          have hl13 : Lies wS (w.heap.size + 1) 35 #[vr, .slice none 0 0] := h13
          have ho : wS.ownsRow w.heap.size 67 3 y10 (L.length + 1) (rowsOf riF (L ++ [(riRd s j fl).1])) := h10
          clear h10
          obtain ⟨A10, c10, rfl⟩ := own_slice ho
          have HO10 := Lib.hid ho
          have HL13 := Lib.hid hl13
          have q1 := (hl13.cell 0).trans (show _ = some vr from rfl)
          have f1 := hl13.free 0
          have qt := hl13.lt
          clear hS ho hl13 h13
          go_wp2_with fail
          have hk5 := Kept.put wS (w.heap.size + 1) 0 (.slice A10 (L.length + 1) c10)
          have fi : ∀ a b, InAt wS G g s a b → InAt (wS.setCell ⟨w.heap.size + 1, 0, none⟩ (.slice A10 (L.length + 1) c10)) G g s a b := fun a b h => h.kept' hk5 (fun (e : _ = _) => by omega) (fun (e : _ = _) => by omega)
          exact hK.out _ _ ⟨undef, rfl, HSS.out.kept hk5 (fun k hk (e : k = w.heap.size + 1) => by omega) (fun (e : _ = w.heap.size + 1) => by omega) (by obtain ⟨m, h1, h2⟩ := HSS.out.at_; exact ⟨m, h1, fi _ _ h2⟩),
            ⟨_, HL13.out.put 0 _, owns_put HO10.out HL13.out (by decide) 0 _⟩, AllP.of _ (fun a ha u h => rrV_box fi (all_in (fun j => rrLow j && j != 13) rfl ha) h)⟩
        exact RelySteps.nil
      case rE =>
        intro xv wE hS hV
        have h7 := hV 7 (by decide) (by decide)
        have h12 := hV 12 (by decide) (by decide)
        clear hV
        simp only [putsOf, List.foldl_cons, List.foldl_nil, List.getD_cons_zero, List.getD_cons_succ, List.getD_nil, Act.put, List.setIfInBounds_toArray, List.set_cons_zero, List.set_cons_succ]
        generalize xv 0 = y0 at *
        generalize xv 1 = y1 at *
        generalize xv 2 = y2 at *
        generalize xv 3 = y3 at *
        generalize xv 4 = y4 at *
        generalize xv 5 = y5 at *
        generalize xv 6 = y6 at *
        generalize xv 7 = y7 at *
        generalize xv 8 = y8 at *
        generalize xv 9 = y9 at *
        generalize xv 10 = y10 at *
        generalize xv 11 = y11 at *
        generalize xv 12 = y12 at *
        obtain ⟨v, hn', hv'⟩ := h12
        have ha := in_is h7.2 hS.at_
        have HA : Hid (InAt wE G g s (risRd s J0 F0 (L.length + 1)).2.1 (risRd s J0 F0 (L.length + 1)).2.2) := by rw [HN.out]; exact ha
        have HV : Hid (wE.ownsRow w.heap.size 67 3 v (L.length + 1) (rowsOf riF (risRd s J0 F0 (L.length + 1)).1)) := by rw [HN.out]; exact hv'
        have HN2 := Lib.hid hn'
        have HK2 := Lib.hid hS.kep
        have HR2 := Lib.hid hS.res
        clear hS hn' hv' ha h7
        go_wp2
        go_roundw
        case rel => exact ⟨L.length + 1, v, by omega, by go_num, HV, HA, HK2, HR2, HN2⟩
        case measure => simp [intOf]; omega
    · obtain rfl : k = C := by omega
      have hql := risRd_length s J0 F0 k
      rw [← HDR.out] at HO HI hql
      obtain ⟨LR, JR, FR⟩ := QR
      dsimp only at HO HI hql
      have HDT : Hid (rdT s JR FR = thsRd s (byI s JR) (byF s JR FR || decide (8 < byV s JR)) (coV (byV s JR) 8 (byF s JR FR))) := rfl
      have HRL := Lib.hid hql
      clear HDR hlt
      go_wp2_with fail
      refine (srcByte G g s JR FR wr HI.out).mono ?_
      rintro e w2 ⟨rfl, hin, hk⟩
      replace HI := Lib.hid hin
      replace HO := Lib.hid (owns_kept HO.out hk (fun r cur hr hl e => by rcases e with e | e <;> (have := (own_lt HO.out hr).1; omega)))
      replace HR := Lib.hid (HR.out.kept hk (by rintro (e | e) <;> omega))
      replace HB := Lib.hid (HB.out.kept hk (by rintro (e | e) <;> omega))
      replace HK := Lib.hid (HK.out.trans hk (fun _ _ e => e))
      clear hin hk
      have hbv := byV_lt s JR
      have hw : IntKind.u64.wrap ((byV s JR : Nat) : Int) = ((byV s JR : Nat) : Int) := IntWalk.u64_in _ (by omega)
      go_wp2_with fail
      have hcl := coV_le (byV s JR) 8 (byF s JR FR)
      refine (srcCount G g s _ _ (byV s JR) 8 w2 HI.out (by omega)).mono ?_
      rintro e w3 ⟨rfl, hin, hk⟩
      replace HI := Lib.hid hin
      replace HO := Lib.hid (owns_kept HO.out hk (fun r cur hr hl e => by rcases e with e | e <;> (have := (own_lt HO.out hr).1; omega)))
      replace HR := Lib.hid (HR.out.kept hk (by rintro (e | e) <;> omega))
      replace HB := Lib.hid (HB.out.kept hk (by rintro (e | e) <;> omega))
      replace HK := Lib.hid (HK.out.trans hk (fun _ _ e => e))
      clear hin hk hw hbv
      generalize coV (byV s JR) 8 (byF s JR FR) = D at *
      generalize (byF s JR FR || decide (8 < byV s JR)) = F1 at *
      generalize byI s JR = J1 at *
      rw [← hql] at HO
      clear hql
      have hrlt := fun r (hr : vr.ownBlock = some r) => (own_lt HO.out hr).2
      have HSP : Hid (SpS w w3 w3 G g vr LR (rdT s JR FR).1 []) := ⟨HK.out, Nat.le_refl _, HO.out, hrlt, (fun a v hv => by cases hv), HR.out⟩
      clear HO HK HR hrlt
      go_wp2_with fail
      go_loopw [29] (fun u wr => ∃ (k : Nat) (vt : Value) (vs : List Value), k ≤ D ∧ u = .int .i64 k ∧ Hid (SpS w wr wr G g vr LR (rdT s JR FR).1 vs) ∧ Hid (wr.ownsRow w.heap.size 51 1 vt k vs) ∧ Hid (InAt wr G g s (thsRd s J1 F1 k).2.1 (thsRd s J1 F1 k).2.2) ∧ Hid (Lies wr (w.heap.size + 1) 35 #[vr, vt])) (fun u _ => D - (intOf u).toNat)
      case atStart => exact ⟨0, .slice none 0 0, [], by omega, rfl, HSP, World.ownsRow_nil _ _ _ _, HI, HB⟩
      case round =>
        clear HSP HI HB
        obtain ⟨i2, vt, vs, hi, rfl, HSP, HV, HI, HB⟩ := hrel
        by_cases hlt : i2 < D
        · have hki : (i2 : Int) < (D : Int) := by omega
          have HN : Hid (thsRd s J1 F1 (i2 + 1) = ((thsRd s J1 F1 i2).1 ++ [(thRd s (thsRd s J1 F1 i2).2.1 (thsRd s J1 F1 i2).2.2).1], (thRd s (thsRd s J1 F1 i2).2.1 (thsRd s J1 F1 i2).2.2).2)) := rfl
          have HG : Hid ((rdT s JR FR).1[i2]? = some (thRd s (thsRd s J1 F1 i2).2.1 (thsRd s J1 F1 i2).2.2).1) := by
            rw [HDT.out]; exact thsRd_get s J1 F1 hlt
          generalize thsRd s J1 F1 i2 = q at *
          obtain ⟨LT, j, fl⟩ := q
          dsimp only at HI HN HG
          have HVL : Hid (vs.length = i2) := by have := HV.out.1; show _ = _; omega
          have hS0 : w.heap.size + 2 ≤ wr.heap.size := HB.out.lt
          have HTR : Hid (thRd s j fl = ((thRd s j fl).1, (thRd s j fl).2.1, (thRd s j fl).2.2)) := rfl
          generalize hX : thRd s j fl = X at *
          obtain ⟨l, j', fl'⟩ := X
          have HX := Lib.hid hX
          clear hX HTR
          dsimp only at HN HG
          generalize (rdT s JR FR).1 = TS at *
          go_wp2_with fail
          refine wp_region_rely (fun q => SpS w wr q G g vr LR TS vs) (spV w wr G g s j fl j' fl' (w.heap.size + 1) i2 vr vt vs l) [some 31, some 32, some 33, some 34, some 35, some 36, some 37, none] [[], [0, 8], [], [2, 10], [3], [1, 4, 9], [], [6, 5, 8]] [[], [0], [], [2, 10], [2, 3, 10], [0, 1, 2, 3, 4, 9, 10], [0, 1, 2, 3, 4, 9, 10], [0, 1, 2, 3, 4, 5, 6, 8, 9, 10]] [[2, 3, 4, 5, 8, 9, 10], [2, 3, 4, 8, 9, 10], [0, 1, 4, 5, 8, 9, 10], [0, 1, 8, 9], [0, 1, 8, 9], [8], [5, 8], []] [0, 1, 2, 3, 4, 5, 6, 7] 11 (by kernel_rfl) (by kernel_rfl) (by kernel_rfl) (by kernel_rfl) ?rS ?rI ?rT ?rE
          case rS => exact HSP.out.kept (Kept.drew noRow wr) (fun _ _ (h : False) => h.elim) (fun _ _ _ _ h => h) (fun _ _ _ _ h => h) (fun h => h)
          case rI =>
            intro a h1 h2
            have h2 : 8 ≤ a := h2
            have : a = 8 ∨ a = 9 ∨ a = 10 := by omega
            rcases this with rfl | rfl | rfl
            · exact Lies.drew HB.out
            · exact owns_drew HV.out
            · exact HI.out
          case rT =>
            refine RelySteps.cons (RelyStep.mk [] [2, 3, 4, 5, 8, 9, 10] rfl rfl rfl (fun xv wS hS hV bq hb K hK => ?_)) ?_
            · clear hV
              simp only [putsOf, List.foldl_cons, List.foldl_nil, List.getD_cons_zero, List.getD_cons_succ, List.getD_nil, Act.put, List.setIfInBounds_toArray, List.set_cons_zero, List.set_cons_succ] at hb
              subst hb
              rw [if_pos (by rfl)]
              go_wp2_with fail
              exact hK.out _ _ ⟨_, rfl, hS, rfl, AllP.same _⟩
            refine RelySteps.cons (RelyStep.mk [0, 8] [2, 3, 4, 8, 9, 10] rfl rfl rfl (fun xv wS hS hV bq hb K hK => ?_)) ?_
            · obtain ⟨h0, h8, _⟩ := hV
              have h0 : xv 0 = _ := h0
              simp only [putsOf, List.foldl_cons, List.foldl_nil, List.getD_cons_zero, List.getD_cons_succ, List.getD_nil, Act.put, List.setIfInBounds_toArray, List.set_cons_zero, List.set_cons_succ, h0] at hb
              clear h0
              generalize xv 8 = y8 at *
              subst hb
              rw [if_pos (by rfl)]
              (have q1 : Lies wS (w.heap.size + 1) _ _ := h8; have c1 := (q1.cell 1).trans (show _ = some vt from rfl); have c2 := q1.lt; clear q1 h8)
              go_wp2_with fail
              exact hK.out _ _ ⟨_, rfl, hS, rfl, AllP.same _⟩
            refine RelySteps.cons (RelyStep.mk [] [0, 1, 4, 5, 8, 9, 10] rfl rfl rfl (fun xv wS hS hV bq hb K hK => ?_)) ?_
            · clear hV
              simp only [putsOf, List.foldl_cons, List.foldl_nil, List.getD_cons_zero, List.getD_cons_succ, List.getD_nil, Act.put, List.setIfInBounds_toArray, List.set_cons_zero, List.set_cons_succ] at hb
              subst hb
              rw [if_pos (by rfl)]
              go_wp2_with fail
              exact hK.out _ _ ⟨_, rfl, hS, rfl, AllP.same _⟩
            refine RelySteps.cons (RelyStep.mk [2, 10] [0, 1, 8, 9] rfl rfl rfl (fun xv wS hS hV bq hb K hK => ?_)) ?_
            · obtain ⟨h2, h10, _⟩ := hV
              have h2 : xv 2 = _ := h2
              simp only [putsOf, List.foldl_cons, List.foldl_nil, List.getD_cons_zero, List.getD_cons_succ, List.getD_nil, Act.put, List.setIfInBounds_toArray, List.set_cons_zero, List.set_cons_succ, h2] at hb
              clear h2
              generalize xv 10 = y10 at *
              subst hb
              rw [if_pos (by rfl)]
              have HSS := Lib.hid hS
              have HA := Lib.hid (show InAt wS G g s j fl from h10)
              clear hS h10
              go_wp2_with fail
              refine (srcThread G g s j fl wS HA.out).mono ?_
              rintro e w5 ⟨v5, rfl, ho, hin, hk5⟩
              rw [HX.out] at ho hin
              exact hK.out _ _ ⟨_, rfl, HSS.out.kept hk5 (fun _ _ h => h) (fun r cur _ hl => two_apart HA.out hl (by decide) (by decide)) (fun r cur _ hl => two_apart HA.out hl (by decide) (by decide)) (by rintro (e | e) <;> omega),
                ⟨owns_mono ho HSS.out.le, hin⟩, AllP.of _ (fun a ha u h => spV_low hk5 (fun cs hl => by rintro (e | e) <;> omega) (fun r cur hr hl => two_apart HA.out hl (by decide) (by decide)) (all_in spLow rfl ha) h)⟩
            refine RelySteps.cons (RelyStep.mk [3] [0, 1, 8, 9] rfl rfl rfl (fun xv wS hS hV bq hb K hK => ?_)) ?_
            · obtain ⟨h3, _⟩ := hV
              simp only [putsOf, List.foldl_cons, List.foldl_nil, List.getD_cons_zero, List.getD_cons_succ, List.getD_nil, Act.put, List.setIfInBounds_toArray, List.set_cons_zero, List.set_cons_succ] at hb
              generalize xv 3 = y3 at *
              subst hb
              rw [if_pos (by rfl)]
              have HSS := Lib.hid hS
              have H3 := Lib.hid h3
              obtain ⟨A3, c3, rfl⟩ := own_slice h3.1
              clear hS h3
              go_wp2_with fail
              exact hK.out _ _ ⟨_, rfl, HSS.out.kept (Kept.alloc noRow wS _) (fun _ _ (h : False) => h.elim) (fun _ _ _ _ h => h) (fun _ _ _ _ h => h) (fun h => h), ⟨wS.heap.size, _, rfl, Lies.made _ _ _, owned_below H3.out.1 ((Below.refl _ _).alloc (Nat.le_refl _) _), H3.out.2.kept' (Kept.alloc noRow wS _) (fun h => h) (fun h => h)⟩, AllP.of _ (fun a ha u h => spV_low (Kept.alloc noRow wS _) (fun _ _ h => h) (fun _ _ _ _ h => h) (all_in spLow rfl ha) h)⟩
            refine RelySteps.cons (RelyStep.mk [1, 4, 9] [8] rfl rfl rfl (fun xv wS hS hV bq hb K hK => ?_)) ?_
            · obtain ⟨h1, h4, h9, _⟩ := hV
              have h1 : xv 1 = _ := h1
              simp only [putsOf, List.foldl_cons, List.foldl_nil, List.getD_cons_zero, List.getD_cons_succ, List.getD_nil, Act.put, List.setIfInBounds_toArray, List.set_cons_zero, List.set_cons_succ, h1] at hb
              clear h1
              generalize xv 4 = y4 at *
              generalize xv 9 = y9 at *
              subst hb
              rw [if_pos (by rfl)]
              have HSS := Lib.hid hS
              obtain ⟨b4, u4, rfl, hl4, hu4, hi4⟩ := h4
              clear hS
              have h9 : wS.ownsRow w.heap.size 51 1 vt i2 vs := h9
              refine step_list (ops := #[]) (by rfl) (append_argS wS 1 rfl (.tmp 32) (.tmp 35) 33 rfl w.heap.size 51 _ 24 Tryd.underlying33 Tryd.infoTh rfl (by decide) vt i2 vs rfl h9 (some ⟨b4, 0, none⟩) 1 1 rfl [u4] ⟨rfl, _, _, rfl, Nat.le_refl _, by unfold maxLen; omega, (fun h => by cases h), fun k x hx => ⟨b4, 0, rfl, by rw [Nat.zero_add, hl4.cell]; rw [← hx]; simp⟩⟩ (by intro q hq; simp at hq; subst hq; exact own_one hu4) (by unfold maxLen; omega) (by omega) HSS.out.kep.size ?_)
              intro v' w' ho hb hgr
              have hk5 := Kept.of_grown hgr
              exact hK.out _ _ ⟨_, rfl, HSS.out.kept hk5 (fun a ha e => by have := (own_lt h9 e).1; omega) (fun r cur hr hl3 hs => own_ne h9 hl3 (by decide) hs) (fun r cur hr hl3 hs => own_ne h9 hl3 (by decide) hs) (fun e => own_ne h9 HSS.out.res (by decide) e),
                ⟨u4, ho, owns_kept hu4 hk5 (fun r cur _ hl3 hs => own_ne h9 hl3 (by decide) hs), hi4.kept' hk5 (fun e => own_ne h9 hi4.1 (by decide) e) (fun e => own_ne h9 hi4.2.1 (by decide) e)⟩, AllP.of _ (fun a ha q h => spV_low2 hk5 (fun cs hl e => own_ne h9 hl (by decide) e) (all_in (fun j => spLow j && j != 9) rfl ha) h)⟩
            refine RelySteps.cons (RelyStep.mk [] [5, 8] rfl rfl rfl (fun xv wS hS hV bq hb K hK => ?_)) ?_
            · clear hV
              simp only [putsOf, List.foldl_cons, List.foldl_nil, List.getD_cons_zero, List.getD_cons_succ, List.getD_nil, Act.put, List.setIfInBounds_toArray, List.set_cons_zero, List.set_cons_succ] at hb
              subst hb
              rw [if_pos (by rfl)]
              go_wp2_with fail
              exact hK.out _ _ ⟨_, rfl, hS, rfl, AllP.same _⟩
            refine RelySteps.cons (RelyStep.mk [6, 5, 8] [] rfl rfl rfl (fun xv wS hS hV bq hb K hK => ?_)) ?_
            · obtain ⟨h6, h5, h8, _⟩ := hV
              have h6 : xv 6 = _ := h6
              simp only [putsOf, List.foldl_cons, List.foldl_nil, List.getD_cons_zero, List.getD_cons_succ, List.getD_nil, Act.put, List.setIfInBounds_toArray, List.set_cons_zero, List.set_cons_succ, h6] at hb
              clear h6
              generalize xv 5 = y5 at *
              generalize xv 8 = y8 at *
              subst hb
              rw [if_pos (by rfl)]
              have HSS := Lib.hid hS
              obtain ⟨u, ho, hu, hin⟩ := h5
              have hl8 : Lies wS (w.heap.size + 1) 35 #[vr, vt] := h8
              obtain ⟨A5, c5, rfl⟩ := own_slice ho
              have HO5 := Lib.hid ho
              have HU5 := Lib.hid hu
              have HI5 := Lib.hid hin
              have HL8 := Lib.hid hl8
              have q1 := (hl8.cell 1).trans (show _ = some vt from rfl)
              have f1 := hl8.free 1
              have qt := hl8.lt
              clear hS ho hu hin hl8 h8
              go_wp2_with fail
              have hk5 := Kept.put wS (w.heap.size + 1) 1 (.slice A5 (i2 + 1) c5)
              exact hK.out _ _ ⟨undef, rfl, HSS.out.kept hk5 (fun k hk (e : k = w.heap.size + 1) => by omega) (fun r cur _ hl3 (e : r = w.heap.size + 1) => by subst e; exact absurd (hl3.same HL8.out).1 (by decide)) (fun r cur _ hl3 (e : r = w.heap.size + 1) => by subst e; exact absurd (hl3.same HL8.out).1 (by decide)) (fun (e : _ = w.heap.size + 1) => by omega),
                ⟨_, u, HL8.out.put 1 _, owns_put HO5.out HL8.out (by decide) 1 _, owns_put HU5.out HL8.out (by decide) 1 _, HI5.out.kept' hk5 (fun (e : _ = _) => by omega) (fun (e : _ = _) => by omega)⟩, AllP.of _ (fun a ha => absurd ha List.not_mem_nil)⟩
            exact RelySteps.nil
          case rE =>
            intro xv wE hS hV
            have h7 := hV 7 (by decide) (by decide)
            clear hV
            simp only [putsOf, List.foldl_cons, List.foldl_nil, List.getD_cons_zero, List.getD_cons_succ, List.getD_nil, Act.put, List.setIfInBounds_toArray, List.set_cons_zero, List.set_cons_succ]
            generalize xv 0 = y0 at *
            generalize xv 1 = y1 at *
            generalize xv 2 = y2 at *
            generalize xv 3 = y3 at *
            generalize xv 4 = y4 at *
            generalize xv 5 = y5 at *
            generalize xv 6 = y6 at *
            generalize xv 7 = y7 at *
            obtain ⟨v, u, hn', hv', hu', hi'⟩ := h7
            have HS2 : Hid (SpS w wE wE G g vr LR TS (vs ++ [u])) :=
              ⟨hS.kep, Nat.le_refl _, hS.rr, fun r hr => Nat.lt_of_lt_of_le (hS.rlt r hr) hS.le, (hS.inn.mono hS.le).snoc (by rw [HVL.out]; exact HG.out) (owns_mono hu' (by omega)) (fun r hr => (own_lt hu' hr).2), hS.res⟩
            have HN2 := Lib.hid hn'
            have HV2 := Lib.hid hv'
            have HI2 : Hid (InAt wE G g s (thsRd s J1 F1 (i2 + 1)).2.1 (thsRd s J1 F1 (i2 + 1)).2.2) := by rw [HN.out]; exact hi'
            clear hS hn' hv' hu' hi'
            go_wp2
            go_roundw
            case rel => exact ⟨i2 + 1, v, vs ++ [u], by omega, by go_num, HS2, HV2, HI2, HN2⟩
            case measure => simp [intOf]; omega
        · obtain rfl : i2 = D := by omega
          rw [← HDT.out] at HI
          have HTL : Hid ((rdT s JR FR).1.length = i2) := by rw [HDT.out]; exact thsRd_length _ _ _ _
          obtain ⟨Ar, cr, rfl⟩ := own_slice HSP.out.rr
          obtain ⟨At, ct, rfl⟩ := own_slice HV.out
          have n0 := (HB.out.cell 0).trans (show _ = some (Value.slice Ar LR.length cr) from rfl)
          have n1 := (HB.out.cell 1).trans (show _ = some (Value.slice At i2 ct) from rfl)
          have nlt := HB.out.lt
          have rf0 := HSP.out.res.free 0
          have rf1 := HSP.out.res.free 1
          have rlt := HSP.out.res.lt
          have r0 := (HSP.out.res.cell 0).trans (show _ = some (Value.slice none 0 0) from rfl)
          have r1 := (HSP.out.res.cell 1).trans (show _ = some (Value.slice none 0 0) from rfl)
          have HK2 := Lib.hid ((Kept.put wr w.heap.size 0 (.slice Ar LR.length cr)).trans (Kept.put _ w.heap.size 1 (.slice At i2 ct)) (fun _ _ h => h))
          have HR2 := Lib.hid ((HSP.out.res.put 0 (.slice Ar LR.length cr)).put 1 (.slice At i2 ct))
          have q0 := (HR2.out.cell 0).trans (show _ = some (Value.slice Ar LR.length cr) from rfl)
          have q1 := (HR2.out.cell 1).trans (show _ = some (Value.slice At i2 ct) from rfl)
          have HQ0 := Lib.hid q0
          have HQ1 := Lib.hid q1
          clear q0 q1 HDT
          go_wp2
          refine bodyPost_ret (v := .agg #[.slice Ar LR.length cr, .slice At i2 ct]) (by simp [results, Tryd.results44, go_sem, HQ0.out, HQ1.out]) rfl ?_
          exact ⟨_, _, vs, rfl, owns_kept HSP.out.rr HK2.out (fun r cur hr hl3 (e : r = w.heap.size) => by subst e; exact absurd (hl3.same HSP.out.res).1 (by decide)),
            by rw [HTL.out]; exact owns_kept HV.out HK2.out (fun r cur hr hl3 (e : r = w.heap.size) => by subst e; exact absurd (hl3.same HSP.out.res).1 (by decide)),
            (HSP.out.inn.kept HK2.out (fun r cur _ hl3 (e : r = w.heap.size) => by subst e; exact absurd (hl3.same HSP.out.res).1 (by decide))).mono HK2.out.size,
            HI.out.kept' HK2.out (fun (e : _ = _) => by omega) (fun (e : _ = _) => by omega),
            HSP.out.kep.trans HK2.out (fun k hk (e : k = w.heap.size) => by omega)⟩
end Go.Proofs.YtebgcehcnenjiaaDoor
