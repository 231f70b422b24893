/-
  Maps that a call has made, by what they tell: whether a key is there, and its number; 'm[k]++' by its two operations.
-/
import Derived.Test.YtoimipcnllmneaaOwn
import Derived.Maps.OwnSet
import Derived.WideKeyEntry
import Derived.DeepKeys4
import Derived.MapViews
namespace Go.Proofs.Ytoimipcnllmneaa
open Go.RowKit
open Go.ChangeMaps (setBlock heap_setBlock_same)
open Go.WideMaps (KeyLaw)
open Go.Maps (Keyed IsMap has)
set_option linter.unusedVariables false
set_option linter.unusedSimpArgs false
theorem setBlock_twice (w : World) (b : Nat) (o o' : Obj) : setBlock (setBlock w b o) b o' = setBlock w b o' := by
  unfold setBlock; simp
theorem setBlock_self {w : World} {b : Nat} {o : Obj} (h : w.heap[b]? = some o) : setBlock w b o = w := by
  obtain ⟨h1, h2⟩ := Array.getElem?_eq_some_iff.1 h
  have : w.heap.setIfInBounds b o = w.heap := by
    apply Array.ext
    · simp
    · intro i hi hj
      rw [Array.getElem_setIfInBounds hj]
      split
      · rename_i e; subst e; exact h2.symm
      · rfl
  unfold setBlock
  rw [this]
/-- 'm[k]++': both its operations, and what the map tells between them. -/
theorem own_bump {P : Program} {w : World} {t k e : TypeId} {b n : Nat} {D : DataW Unit} (h : w.ownsMap P k (plainElem P e) b n D) (K : KeyLaw P k) (ht : P.underlying t = some (.map k e)) (he : P.underlying e = some (.int .i64))
    (hz : ∀ u : World, (zeroValue e).run P u = .ok (.int .i64 0) u) (hn : n < maxLen) {key : Value} {kl : Lit} (hkey : keyOf P k key = some kl) {c : Int} (hat : D.atKey kl (.lit (.int .i64 0)) = .lit (.int .i64 c)) (hw : (Lit.int .i64 (c + 1)).wf = true) :
    ∃ (st : Nat) (w1 w2 : World), (Instr.mapEntry t (.map (some b)) key).run P w = .ok (.tuple #[.int .i64 c, .int .i64 (st : Int)]) w1 ∧ (Instr.lookup t (.map (some b)) key false).run P w1 = .ok (.int .i64 c) w1 ∧
      (Instr.entryStore t (.map (some b)) (.int .i64 (st : Int)) (.int .i64 (c + 1))).run P w1 = .ok () w2 ∧ w2.ownsMap P k (plainElem P e) b (n + 1) (D.put kl (.lit (.int .i64 (c + 1)))) ∧ w.grownBy w2 (some b) ∧ w.grownBy w1 (some b) := by
  have K' := Keyed.of_law K
  have hw0 : (Lit.int .i64 0).wf = true := by decide
  obtain ⟨es, clock, hb, F, hs, hD⟩ := id h
  obtain ⟨v0, st, es1, clock1, hrun, hv, hst⟩ := Go.WideElems.entry_then_store K ht hz hb F hkey
  have hg1 : w.grownBy (setBlock w b (.map es1 clock1)) (some b) := ⟨rfl, rfl, rfl, by simp [setBlock], fun i _ hi => Go.ChangeMaps.heap_setBlock_other hb _ (fun e => hi (by rw [e]))⟩
  have hv0 : v0 = .int .i64 c ∧ ∃ D1 : DataW Unit, (setBlock w b (.map es1 clock1)).ownsMap P k (plainElem P e) b (n + 1) D1 ∧ D1.atKey kl (.lit (.int .i64 0)) = .lit (.int .i64 c) := by
    rcases K.find w hkey es.toList F.keys with ⟨h1, h2⟩ | ⟨j, e0, h1, h2, h3⟩
    · have e1 : (Instr.mapEntry t (.map (some b)) key).run P w = .ok (.tuple #[.int .i64 0, goInt clock]) (setBlock w b (.map (es.push ⟨key, .int .i64 0, clock⟩) (clock + 1))) := by
        simp [Instr.mapEntry, run_underlying ht, MapKept.run_getObj_map hb, K.check w false hkey, h1, hz, MapKept.run_setObj_map _ hb, Result.andThen, setBlock]
      have e2 : (Instr.mapUpdate t (.map (some b)) key (.int .i64 0)).run P w = .ok () (setBlock w b (.map (es.push ⟨key, .int .i64 0, clock⟩) (clock + 1))) := by
        simp [Instr.mapUpdate, run_underlying ht, MapKept.run_getObj_map hb, K.check w false hkey, h1, MapKept.run_setObj_map _ hb, Result.andThen, setBlock]
      obtain ⟨w', hup, hown, hg⟩ := h.update K' ht hn hkey (plainElem_int he hw0)
      rw [e2] at hup
      simp only [Result.ok.injEq, true_and] at hup
      rw [e1] at hrun
      simp only [Result.ok.injEq, Value.tuple.injEq, Array.mk.injEq, List.cons.injEq, and_true] at hrun
      obtain ⟨⟨q1, _⟩, q2⟩ := hrun
      have hc : c = 0 := by
        rcases Go.Maps.fit_look false K' ht (hz w) hb F hkey with ⟨_, _, hatz⟩ | ⟨e0, y, hm, hke, _, _, _, _⟩
        · have := hatz (.lit (.int .i64 0))
          rw [← hD, hat] at this
          simpa using this
        · exact absurd hke (h2 e0 hm)
      subst hc
      refine ⟨q1.symm, _, by rw [← q2, hup]; exact hown, ?_⟩
      rw [Go.Maps.atKey_put_same ⟨_, hD⟩ (K'.key hkey)]
    · have hm0 : e0 ∈ es.toList := List.mem_of_getElem? h2
      have hj : es[j]? = some e0 := by simpa using h2
      have e1 : (Instr.mapEntry t (.map (some b)) key).run P w = .ok (.tuple #[e0.val, goInt e0.born]) (setBlock w b (.map (es.modify j (fun e => { e with key := key })) clock)) := by
        simp [Instr.mapEntry, run_underlying ht, MapKept.run_getObj_map hb, K.check w false hkey, h1, hj, h3, K.stays w hkey, MapKept.run_setObj_map _ hb, Result.andThen, setBlock]
      have hsame : es.modify j (fun e => { e with key := key }) = es := by
        apply Array.ext
        · simp
        · intro i hi hi2
          rw [Array.getElem_modify]
          split
          · rename_i e; subst e
            obtain ⟨g1, g2⟩ := Array.getElem?_eq_some_iff.1 hj
            rw [g2, ← h3]
          · rfl
      rw [hsame, setBlock_self hb] at e1
      rw [e1] at hrun
      simp only [Result.ok.injEq, Value.tuple.injEq, Array.mk.injEq, List.cons.injEq, and_true] at hrun
      obtain ⟨⟨q1, _⟩, q2⟩ := hrun
      have hc : e0.val = .int .i64 c := by
        rcases Go.Maps.fit_look false K' ht (hz w) hb F hkey with ⟨_, hno, _⟩ | ⟨e2, y, hm, hke, hr, hR, haty, _⟩
        · exact absurd h3 (hno e0 hm0)
        · obtain ⟨i, hi⟩ := List.mem_iff_getElem?.1 hm
          have hp := ((MapKept.stamped_iff es clock).1 F.stamped).2.2
          have hij : i = j := by
            obtain ⟨g1, g2⟩ := List.getElem?_eq_some_iff.1 hi
            obtain ⟨g3, g4⟩ := List.getElem?_eq_some_iff.1 h2
            rcases Nat.lt_trichotomy i j with h | h | h
            · exact absurd (by rw [g2, g4, hke, h3]) (List.pairwise_iff_getElem.1 hp i j g1 g3 h)
            · exact h
            · exact absurd (by rw [g2, g4, hke, h3]) (List.pairwise_iff_getElem.1 hp j i g3 g1 h)
          subst hij
          rw [hi] at h2
          simp only [Option.some.injEq] at h2
          obtain ⟨a, ha, hy, _⟩ := plainElem_int_inv he hR
          have h4 := haty (.lit (.int .i64 0))
          rw [← hD, hat, hy] at h4
          simp only [DataW.lit.injEq, Lit.int.injEq, true_and] at h4
          rw [← h2, ha, h4]
      exact ⟨by rw [← q1, hc], D, by rw [← q2]; exact h.mono (Nat.le_succ n), hat⟩
  obtain ⟨rfl, D1, hD1, hat1⟩ := hv0
  obtain ⟨c', hl1, hc', _⟩ := hD1.lookup_int K' ht he (hz _) hkey
  rw [hat1] at hc'
  simp only [DataW.lit.injEq, Lit.int.injEq, true_and] at hc'
  subst hc'
  obtain ⟨w', hup, hown, hg⟩ := h.update K' ht hn hkey (plainElem_int he hw)
  obtain ⟨es', clock', hr1, hr2⟩ := hst (setBlock w b (.map es1 clock1)) (.int .i64 (c + 1)) (heap_setBlock_same hb _)
  rw [hr2] at hup
  simp only [Result.ok.injEq, true_and] at hup
  rw [setBlock_twice, hup] at hr1
  exact ⟨st, _, w', hrun, hl1, hr1, hown, hg, hg1⟩
theorem ownsMap_below {P : Program} {w a : World} {k e : TypeId} {b n B : Nat} {D : DataW Unit} (h : w.ownsMap P k (plainElem P e) b n D) (hb : Below B w a) (hB : b < B) : a.ownsMap P k (plainElem P e) b n D := by
  obtain ⟨es, clock, hc, F, hs, hD⟩ := h
  exact ⟨es, clock, (hb.block b hB).trans hc, F, hs, hD⟩
theorem ownsMap_kept {P : Program} {w a : World} {k e : TypeId} {b n g : Nat} {D : DataW Unit} (h : w.ownsMap P k (plainElem P e) b n D) (hb : Kept (oneRow g) w a) (hB : b ≠ g) : a.ownsMap P k (plainElem P e) b n D := by
  have hl := h.lt
  obtain ⟨es, clock, hc, F, hs, hD⟩ := h
  exact ⟨es, clock, (hb.at_ b hl hB).trans hc, F, hs, hD⟩
theorem kept_own {w a : World} {b : Nat} (h : w.grownBy a (some b)) : Kept (oneRow b) w a := ⟨h.os, h.tape, h.output, h.size, fun k hk hn => h.block k hk (fun e => hn (Option.some.inj e))⟩
/-- What was put: a number for a number. -/
def PutIs (D : DataW Unit) (Pf : Nat → Option Nat) : Prop := IsMap D ∧ ∀ t : Nat, has D (.int .u64 (t : Int)) = (Pf t).isSome ∧ ∀ v, Pf t = some v → ∀ z, D.atKey (.int .u64 (t : Int)) z = .lit (.int .u64 (v : Int))
theorem PutIs.empty : PutIs (.map []) (fun _ => none) := ⟨Go.Maps.isMap_empty, fun t => ⟨rfl, fun v h => by cases h⟩⟩
theorem PutIs.put {D : DataW Unit} {Pf : Nat → Option Nat} (h : PutIs D Pf) (t v : Nat) : PutIs (D.put (.int .u64 (t : Int)) (.lit (.int .u64 (v : Int)))) (fun x => if x = t then some v else Pf x) := by
  refine ⟨h.1.put _ _, fun x => ?_⟩
  by_cases e : x = t
  · subst e
    refine ⟨by rw [Go.Maps.has_put_same h.1 (k := .int .u64 _) trivial]; simp, fun u hu z => ?_⟩
    rw [Go.Maps.atKey_put_same h.1 (k := .int .u64 _) trivial]
    simp only [if_true, Option.some.injEq] at hu
    rw [hu]
  · have hne : (Lit.int .u64 (x : Int)) ≠ Lit.int .u64 (t : Int) := fun he => e (by simp only [Lit.int.injEq, true_and] at he; omega)
    refine ⟨by rw [Go.Maps.has_put_other hne]; simp only [if_neg e]; exact (h.2 x).1, fun u hu z => ?_⟩
    rw [Go.Maps.atKey_put_other hne]
    simp only [if_neg e] at hu
    exact (h.2 x).2 u hu z
end Go.Proofs.Ytoimipcnllmneaa
