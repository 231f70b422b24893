/-
  A visible instruction ends (layer 16): thread.finish at event 12 (see): what was seen grows.
-/
import Derived.Test.YtiegmpjoiekekaaThe3
import Derived.Test.YtiegmpjoiekekaaThcl
import Derived.Deep.RegionLaw
namespace Go.Proofs.Ytiegmpjoiekekaa
open Go.RowKit
set_option linter.unusedVariables false
set_option linter.unusedSimpArgs false
def seeT (x : Th) (n : Nat) : Th := { x with sn := x.sn ++ [n] }
set_option maxHeartbeats 8000000 in
set_option maxRecDepth 100000 in
theorem fin12 (i : In) (x : Th) (e : Ev) (v : Nat) (A : Option Addr) (c g B : Nat) (w : World) (h : Lies w g 27 (thC x (.slice A x.sn.length c))) (ho : w.ownsRow B 23 1 (.slice A x.sn.length c) x.sn.length (cells64 x.sn)) (hl : x.sn.length ≤ 1000000) (h0 : 0 ≤ x.at_) (h256 : x.at_ ≤ 256) (hk : e.kd = 12) (hBg : B ≤ g) (hBw : B ≤ w.heap.size) :
    Calls Try.prog 35 #[.agg (inC i), .pointer (some ⟨g, 0, none⟩), .agg (evC e), .int .u64 (v : Int)] w fun q w' => q = .returned (.tuple #[]) ∧ ∃ A' c', Lies w' g 27 (thC (endT (seeT x e.vl)) (.slice A' (x.sn.length + 1) c')) ∧ w'.ownsRow B 23 1 (.slice A' (x.sn.length + 1) c') (x.sn.length + 1) (cells64 (x.sn ++ [e.vl])) ∧ Below B w w' ∧ Kept (fun k => k = g ∨ (Value.slice A x.sn.length c).ownBlock = some k) w w' := by
  obtain ⟨i0, hi0, hz0, hz1, hz2⟩ := info_parts Try.info64
  obtain ⟨eth, ekd, erg, etk, evl⟩ := e
  have hk : ekd = 12 := hk
  subst hk
  have hbw : Below w.heap.size w ((w.alloc (.cells (inC i) 50)).alloc (.cells (evC ⟨eth, 12, erg, etk, evl⟩) 42)) := ((Below.refl _ _).alloc (Nat.le_refl _) _).alloc (by simp) _
  have lg := h.below hbw h.lt
  have le := Lies.made (w.alloc (.cells (inC i) 50)) 42 (evC ⟨eth, 12, erg, etk, evl⟩)
  rw [show (w.alloc (.cells (inC i) 50)).heap.size = w.heap.size + 1 by simp] at le
  have HO := Lib.hid (owned_below ho hbw)
  have HBW := Lib.hid (hbw.mono hBw)
  have HKW := Lib.hid ((Kept.of_below hbw).mono (T := fun k => k = g ∨ (Value.slice A x.sn.length c).ownBlock = some k) (fun _ _ e => e.elim))
  have HG := Lib.hid lg
  have HLE := Lib.hid le
  have hw1 : w.heap.size ≤ ((w.alloc (.cells (inC i) 50)).alloc (.cells (evC ⟨eth, 12, erg, etk, evl⟩) 42)).heap.size := hbw.size
  have hwa : IntKind.i64.wrap (x.at_ + 1) = x.at_ + 1 := IntWalk.i64_in _ (by omega)
  have hgl := h.lt
  obtain ⟨n, hn⟩ : ∃ n, x.sn.length = n := ⟨_, rfl⟩
  have HN : Hid (cells64 x.sn ++ [.int .u64 (evl : Int)] = cells64 (x.sn ++ [evl])) := by show _ = _; simp [cells64]
  rw [hn] at HG HO hl HKW ⊢
  clear hbw lg h le hn ho
  go_enter Try.func35, Try.ntmps35
  go_upto_region 22 with (fail)
  generalize (w.alloc (.cells (inC i) 50)).alloc (.cells (evC ⟨eth, 12, erg, etk, evl⟩) 42) = w1 at *
  have d4 := (HLE.out.cell 4).trans (show _ = some (Value.int .u64 (evl : Int)) from rfl)
  have el := HLE.out.lt
  have rb := (HG.out.cell 13).trans (show _ = some (Value.slice A n c) from rfl)
  have rl := HG.out.lt
  have rf := HG.out.free 13
  go_region_law (refine step_append_lies _ rfl (.tmp 98) (.tmp 101) 25 rfl B 23 i0 (.int .u64 0) 1 8 Try.underlying25 hi0 hz0 hz1 hz2 rfl (by omega) _ n _ rfl ((show World.ownsRow w1.drew _ _ _ _ _ _ from HO.out).alloc _) ⟨w1.heap.size, 0, none⟩ 1 1 [.int .u64 (evl : Int)] rfl rfl (fun j u hj => by
    match j, hj with
    | 0, hj => simp at hj; subst hj; simp [Addr.add, World.cell?_alloc_at]) (fun u hu => by simp at hu; subst hu; rfl) (by omega) (by unfold maxLen; omega) (by omega) (by simp; omega) (w1.heap.size + 1) (by simp) ?_; intro gh caph w6 ho6 hg6 hgh hg6l; have l6 := ((Lies.drew HG.out).alloc (.cells #[.int .u64 (evl : Int)] 23)).kept (Kept.of_grown hg6) (own_ne HO.out HG.out (by decide)); have e1 := (l6.cell 13).trans (show _ = some (Value.slice A n c) from rfl); have e2 := l6.free 13; have e3 := l6.lt)
  all_goals
    have hk6 : Kept (fun j => (Value.slice A n c).ownBlock = some j) w1 w6 := (Kept.drew _ w1).trans (kept_grown hg6) (fun _ _ h => h)
    have hge : ∀ j, (Value.slice A n c).ownBlock = some j → B ≤ j := fun j hj => (HO.out.lt j hj).1
    have hb6 : Below B w1 w6 := hk6.below (by omega) (fun j hj h => by have := hge _ h; omega)
    have q1 := l6.put 13 (.slice (some ⟨gh, 0, none⟩) (n + 1) caph)
    have o1 := owns_put ho6 l6 (by decide) 13 (.slice (some ⟨gh, 0, none⟩) (n + 1) caph)
    have k1 := ((HKW.out.trans (hk6.mono (T := fun k => k = g ∨ (Value.slice A n c).ownBlock = some k) (fun _ _ e => .inr e)) (fun _ _ e => e)).trans (Kept.put w6 g 13 (.slice (some ⟨gh, 0, none⟩) (n + 1) caph)) (fun _ _ (e : _ = g) => .inl e))
    have K1 := Lib.hid k1
    have b1 := (HBW.out.trans hb6).setCell (p := ⟨g, 13, none⟩) hBg (.slice (some ⟨gh, 0, none⟩) (n + 1) caph)
    rw [HN.out] at o1
    replace q1 : Lies (w6.setCell ⟨g, 13, none⟩ (.slice (some ⟨gh, 0, none⟩) (n + 1) caph)) g 27 (thC x (.slice (some ⟨gh, 0, none⟩) (n + 1) caph)) := q1
    have Q1 := Lib.hid q1
    have O1 := Lib.hid o1
    have B1 := Lib.hid b1
    clear hk6 hge hb6 q1 o1 b1 k1 l6 e1 e2 e3 ho6 hg6 hgh hg6l d4 el rb rl rf HO HBW HG HLE HKW
    generalize w6.setCell ⟨g, 13, none⟩ (.slice (some ⟨gh, 0, none⟩) (n + 1) caph) = w3 at *
    have s0 := (Q1.out.cell 0).trans (show _ = some (Value.int .i64 x.at_) from rfl)
    have s1 := (Q1.out.cell 1).trans (show _ = some (Value.int .i64 x.ph) from rfl)
    have s2 := (Q1.out.cell 2).trans (show _ = some (Value.int .i64 x.rg) from rfl)
    have s4 := (Q1.out.cell 4).trans (show _ = some (Value.int .u64 (x.tk : Int)) from rfl)
    have sl := Q1.out.lt
    have f0 := Q1.out.free 0
    have f1 := Q1.out.free 1
    have f2 := Q1.out.free 2
    have f4 := Q1.out.free 4
    have q2 := Q1.out.put 0 (.int .i64 (x.at_ + 1))
    have q3 := q2.put 1 (.int .i64 0)
    have q4 := q3.put 2 (.int .i64 0)
    have q5 := q4.put 4 (.int .u64 0)
    have o2 := owns_put O1.out Q1.out (by decide) 0 (.int .i64 (x.at_ + 1))
    have o3 := owns_put o2 q2 (by decide) 1 (.int .i64 0)
    have o4 := owns_put o3 q3 (by decide) 2 (.int .i64 0)
    have o5 := owns_put o4 q4 (by decide) 4 (.int .u64 0)
    have b5 := (((B1.out.setCell (p := ⟨g, 0, none⟩) hBg (.int .i64 (x.at_ + 1))).setCell (p := ⟨g, 1, none⟩) hBg (.int .i64 0)).setCell (p := ⟨g, 2, none⟩) hBg (.int .i64 0)).setCell (p := ⟨g, 4, none⟩) hBg (.int .u64 0)
    have k5 := ((((K1.out.trans (Kept.put _ g 0 (.int .i64 (x.at_ + 1))) (fun _ _ (e : _ = g) => .inl e)).trans (Kept.put _ g 1 (.int .i64 0)) (fun _ _ (e : _ = g) => .inl e)).trans (Kept.put _ g 2 (.int .i64 0)) (fun _ _ (e : _ = g) => .inl e)).trans (Kept.put _ g 4 (.int .u64 0)) (fun _ _ (e : _ = g) => .inl e))
    have K5 := Lib.hid k5
    have Q5 := Lib.hid q5
    have O5 := Lib.hid o5
    have B5 := Lib.hid b5
    clear q2 q3 q4 q5 o2 o3 o4 o5 b5 k5 Q1 O1 B1 K1
    go_wp2
    go_end0
    exact ⟨rfl, _, _, Q5.out, O5.out, B5.out, K5.out⟩
end Go.Proofs.Ytiegmpjoiekekaa
