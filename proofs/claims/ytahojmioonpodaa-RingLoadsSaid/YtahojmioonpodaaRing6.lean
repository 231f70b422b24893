import Derived.Test.YtahojmioonpodaaRing5
import Derived.Deep.DeepCutAuto
import Derived.Deep.RegionLaw
namespace Go.Proofs.Ytahojmioonpodaa
open Go.RowKit
set_option linter.unusedVariables false
set_option linter.unusedSimpArgs false
def cellsH (l : List Nat) : List Value := l.map fun (n : Nat) => Value.int .u64 (n : Int)
theorem Try.infoH : (Try.prog.info? 32).map (fun i => (i.zero, i.size, i.bytes)) = some (some (.int .u64 0), 1, 8) := by kernel_rfl
/-- The slots, told with what is left of the ring, and of block b if it is there. -/
theorem all_kept {w : World} {g : Nat} {T : TypeId} {p0 post : List Value} {R : Rg} (o b : Nat) (h : RgAt w g T p0 post R) (ho : p0.length = o) :
    Calls Try.prog 47 #[.pointer (some ⟨g, o + 12, none⟩)] w fun e w' => ∃ A c, e = .returned (.slice A R.L.length c) ∧ g < w'.heap.size ∧ w'.cell? ⟨g, o + 2, none⟩ = some (.int .u64 (R.tail : Int)) ∧ w'.cell? ⟨g, o + 11, none⟩ = some (.bool R.cl) ∧
      (∀ k, b < w.heap.size → w'.cell? ⟨b, k, none⟩ = w.cell? ⟨b, k, none⟩) ∧ (∀ k, b < w.heap.size → w'.frozen? ⟨b, k, none⟩ = w.frozen? ⟨b, k, none⟩) ∧
      Hid (RgAt w' g T p0 post R) ∧ Hid (w'.ownsRow w.heap.size 78 3 (.slice A R.L.length c) R.L.length (rowsOf slF R.L)) ∧ Hid (Below w.heap.size w w') := by
  obtain ⟨s1, s2⟩ := h.slots
  subst ho
  refine (slotsAll s1 s2).mono fun e w' ⟨v, he, hown, hb⟩ => ?_
  obtain ⟨A, c, rfl, _⟩ := (SeqS.of_owns hown).form
  have hr := h.later hb
  obtain ⟨c0, c1, c2, c3⟩ := hr.cells
  refine ⟨A, c, he, hr.lt, c2, c3, fun k hk => hb.cell (p := ⟨b, k, none⟩) hk, fun k hk => ?_, hr, hown, hb⟩
  have := hb.block b hk
  unfold World.frozen?
  rw [this]
/-- A ring's state half laid: its heads are yet to come. -/
def HalfSt (w wx : World) (g q : Nat) (T : TypeId) (p0 post : List Value) (R : Rg) (A : Option Addr) (c : Nat) : Prop :=
  w.heap.size < q ∧ Lies wx q 42 #[.int .u64 (R.tail : Int), .slice none 0 0, .bool R.cl, .slice A R.L.length c] ∧ Lies wx w.heap.size 42 #[.int .u64 0, .slice none 0 0, .bool false, .slice none 0 0] ∧
    RgAt wx g T p0 post R ∧ wx.ownsRow w.heap.size 78 3 (.slice A R.L.length c) R.L.length (rowsOf slF R.L) ∧ Below w.heap.size w wx
theorem half_last {w w0 w3 : World} {g : Nat} {T : TypeId} {p0 post : List Value} {R : Rg} {A : Option Addr} {c : Nat} (h0 : Below w.heap.size w w0) (hl : w.heap.size < w0.heap.size) (l0 : Lies w0 w.heap.size 42 #[.int .u64 0, .slice none 0 0, .bool false, .slice none 0 0])
    (hb : Below w0.drew.heap.size w0.drew w3) (hr : RgAt w3 g T p0 post R) (ho : w3.ownsRow w0.drew.heap.size 78 3 (.slice A R.L.length c) R.L.length (rowsOf slF R.L)) :
    HalfSt w (w3.alloc (.cells #[.int .u64 (R.tail : Int), .slice none 0 0, .bool R.cl, .slice A R.L.length c] 42)) g w3.heap.size T p0 post R A c := by
  have hs : w0.heap.size ≤ w3.heap.size := hb.size
  have l3 := (Lies.drew l0).below hb l0.lt
  have hbA : Below w3.heap.size w3 (w3.alloc (.cells #[.int .u64 (R.tail : Int), .slice none 0 0, .bool R.cl, .slice A R.L.length c] 42)) := (Below.refl _ _).alloc (Nat.le_refl _) _
  have h3 : Below w.heap.size w w3 := (below_drewN h0 1).trans (hb.mono h0.size)
  exact ⟨by omega, Lies.made _ _ _, l3.alloc _, hr.later hbA, owns_mono (owned_below ho hbA) h0.size, h3.alloc h3.size _⟩
theorem half_first {w w0 w3 : World} {g : Nat} {T : TypeId} {p0 post : List Value} {R : Rg} {A : Option Addr} {c : Nat} {z : Array Value} (h0 : Below w.heap.size w w0) (hl : w0.heap.size = w.heap.size + 1) (hg : g < w.heap.size) (l0 : Lies w0 w.heap.size 42 #[.int .u64 0, .slice none 0 0, .bool false, .slice none 0 0])
    (hz : z = #[.int .u64 0, .slice none 0 0, .bool false, .slice none 0 0]) (hb : Below (w0.alloc (.cells z 42)).drew.heap.size (w0.alloc (.cells z 42)).drew w3) (hr : RgAt w3 g T p0 post R)
    (ho : w3.ownsRow (w0.alloc (.cells z 42)).drew.heap.size 78 3 (.slice A R.L.length c) R.L.length (rowsOf slF R.L)) :
    HalfSt w ((((w3.setCell ⟨w.heap.size + 1, 0, none⟩ (.int .u64 (R.tail : Int))).setCell ⟨w.heap.size + 1, 1, none⟩ (.slice none 0 0)).setCell ⟨w.heap.size + 1, 2, none⟩ (.bool R.cl)).setCell ⟨w.heap.size + 1, 3, none⟩ (.slice A R.L.length c)) g (w.heap.size + 1) T p0 post R A c := by
  subst hz
  have l1 := Lies.made w0 42 #[.int .u64 0, .slice none 0 0, .bool false, .slice none 0 0]
  have l3 := (Lies.drew l1).below hb l1.lt
  have l4 := (Lies.drew (l0.alloc (.cells #[.int .u64 0, .slice none 0 0, .bool false, .slice none 0 0] 42))).below hb (l0.alloc _).lt
  rw [hl] at l3
  have hsz : (w0.alloc (.cells #[.int .u64 0, .slice none 0 0, .bool false, .slice none 0 0] 42)).drew.heap.size = w.heap.size + 1 + 1 := by
    show (w0.alloc _).heap.size = _
    rw [World.size_alloc, hl]
  have hk : Kept (oneRow (w.heap.size + 1)) w3 ((((w3.setCell ⟨w.heap.size + 1, 0, none⟩ (.int .u64 (R.tail : Int))).setCell ⟨w.heap.size + 1, 1, none⟩ (.slice none 0 0)).setCell ⟨w.heap.size + 1, 2, none⟩ (.bool R.cl)).setCell ⟨w.heap.size + 1, 3, none⟩ (.slice A R.L.length c)) :=
    (((Kept.put w3 _ 0 _).trans (Kept.put _ _ 1 _) (fun _ _ h => h)).trans (Kept.put _ _ 2 _) (fun _ _ h => h)).trans (Kept.put _ _ 3 _) (fun _ _ h => h)
  have h3 : Below w.heap.size w w3 := (below_drewN (h0.alloc h0.size _) 1).trans (hb.mono (by rw [hsz]; omega))
  refine ⟨by omega, ((l3.put 0 _).put 1 _ |>.put 2 _).put 3 _, l4.kept hk (fun e : w.heap.size = w.heap.size + 1 => by omega), hr.kept hk (fun e : g = w.heap.size + 1 => by omega), ?_, h3.trans (hk.below h3.size (fun j hj (e : j = w.heap.size + 1) => by omega))⟩
  exact owns_mono (owns_kept ho hk (fun r cur hv _ (e : r = w.heap.size + 1) => by have := (ho.lt r hv).1; omega)) (by rw [hsz]; omega)
set_option maxHeartbeats 2000000 in
set_option maxRecDepth 100000 in
theorem rgState {w : World} {g o : Nat} {T : TypeId} {p0 post : List Value} {R : Rg} (h : RgAt w g T p0 post R) (ho : p0.length = o) :
    Calls Try.prog 20 #[.pointer (some ⟨g, o, none⟩)] w fun e w' => ∃ A1 c1 A2 c2, e = .returned (.agg #[.int .u64 (R.tail : Int), .slice A1 R.rd c1, .bool R.cl, .slice A2 R.L.length c2]) ∧
      w'.ownsRow w.heap.size 32 1 (.slice A1 R.rd c1) R.rd (cellsH (R.h8.take R.rd)) ∧ w'.ownsRow w.heap.size 78 3 (.slice A2 R.L.length c2) R.L.length (rowsOf slF R.L) ∧ Below w.heap.size w w' := by
  have hb0 := (Below.refl w.heap.size w).alloc (Nat.le_refl _) (.cells #[.int .u64 0, .slice none 0 0, .bool false, .slice none 0 0] 42)
  have hb1 := hb0.alloc (by simp) (.cells #[.int .u64 0, .slice none 0 0, .bool false, .slice none 0 0] 42)
  have l0 := Lies.made w 42 #[.int .u64 0, .slice none 0 0, .bool false, .slice none 0 0]
  have HAL := Lib.hid (fun wx (h : RgAt wx g T p0 post R) => all_kept o (w.heap.size + 1) h ho)
  have HB0 := Lib.hid hb0
  have HB1 := Lib.hid hb1
  have L0 := Lib.hid l0
  have H0 := Lib.hid (h.later hb0)
  have H1 := Lib.hid (h.later hb1)
  have hlt := h.lt
  have hlt2 : g < w.heap.size + 1 := by omega
  subst ho
  obtain ⟨c0, c1, c2, c3⟩ := h.cells
  clear hb0 hb1 l0 h
  go_enter Try.func20, Try.ntmps20
  go_wp2
  go_cut [3] (fun s3 wx => ∃ q A c, s3 = .pointer (some ⟨q, 0, none⟩) ∧ HalfSt w wx g q T p0 post R A c)
  case first =>
    go_region_with (go_at_call 47; refine (HAL.out _ ?_).mono ?_; (first | exact H0.out | exact H1.out); rintro e w3 ⟨A, c, rfl, y1, y2, y3, y4, y5, HR3, HO3, HB3⟩)
    all_goals
      go_wp2_with fail
      go_meet
      first
        | exact ⟨_, A, c, rfl, half_last HB0.out (by simp) L0.out HB3.out HR3.out HO3.out⟩
        | exact ⟨_, A, c, rfl, half_first HB0.out (by simp) hlt L0.out rfl HB3.out HR3.out HO3.out⟩
  case rest =>
    obtain ⟨q, A, c, rfl, hq, l1, l0, hr, ho, hb⟩ := hcut
    obtain ⟨i0, hi0, hz0, hz1, hz2⟩ := info_parts Try.infoH
    have hr2 := hr.1.2.1.2.2.2.1
    have h8 := hr.1.1
    have hql := l1.lt
    obtain ⟨c0, c1, c2, c3⟩ := hr.cells
    have L1 := Lib.hid l1
    have L0 := Lib.hid l0
    have HR := Lib.hid hr
    have HO := Lib.hid ho
    have HB := Lib.hid hb
    have H8 := Lib.hid h8
    clear l1 l0 hr ho hb h8 H0 H1 HB0 HB1 HAL
    go_wp2
    go_loopw [28] (fun u wr => ∃ (k : Nat) (Ah : Option Addr) (ch : Nat), k ≤ R.rd ∧ u = .int .i64 k ∧ Lies wr q 42 #[.int .u64 (R.tail : Int), .slice Ah k ch, .bool R.cl, .slice A R.L.length c] ∧ Lies wr w.heap.size 42 #[.int .u64 0, .slice none 0 0, .bool false, .slice none 0 0] ∧
        wr.ownsRow w.heap.size 32 1 (.slice Ah k ch) k (cellsH (R.h8.take k)) ∧ RgAt wr g T p0 post R ∧ wr.ownsRow w.heap.size 78 3 (.slice A R.L.length c) R.L.length (rowsOf slF R.L) ∧ Below w.heap.size w wr) (fun u _ => R.rd - (intOf u).toNat)
    case atStart => exact ⟨0, none, 0, by omega, rfl, L1.out, L0.out, World.ownsRow_nil _ _ _ _, HR.out, HO.out, HB.out⟩
    case round =>
      clear L1 L0 HR HO HB c0 c1 c2 c3 hql
      obtain ⟨k, Ah, ch, hk, rfl, l1, l0, hh, hr, ho, hb⟩ := hrel
      by_cases hlt3 : k < R.rd
      · have hki : (k : Int) < (R.rd : Int) := by omega
        have hk8 : (k : Int) < 8 := by omega
        obtain ⟨x, hx⟩ : ∃ x, R.h8[k]? = some x := ⟨_, List.getElem?_eq_getElem (by have := H8.out; omega)⟩
        have dk := hr.head hx
        have d1 := (l1.cell 1).trans (show _ = some (Value.slice Ah k ch) from rfl)
        have f1 := l1.free 1
        have hgl := hr.lt
        have hql := l1.lt
        have hws := hb.size
        have hnx : cellsH (R.h8.take k) ++ [.int .u64 (x : Int)] = cellsH (R.h8.take (k + 1)) := by unfold cellsH; rw [List.take_add_one, hx, List.map_append]; rfl
        have HNX := Lib.hid hnx
        have HH := Lib.hid hh
        have HO := Lib.hid ho
        have HR := Lib.hid hr
        have L1 := Lib.hid l1
        have L0 := Lib.hid l0
        have HB := Lib.hid hb
        clear hx hnx hh ho hr l1 l0 hb
        go_wp2
        go_region_law (refine step_append_lies _ rfl (.tmp 32) (.tmp 40) 33 rfl w.heap.size 32 i0 (.int .u64 0) 1 8 Try.underlying33 hi0 hz0 hz1 hz2 rfl (by omega) _ k _ rfl ((show World.ownsRow wr.drew _ _ _ _ _ _ from HH.out).alloc _) ⟨wr.heap.size, 0, none⟩ 1 1 [.int .u64 (x : Int)] rfl rfl (fun j u hj => by
            match j, hj with
            | 0, hj => simp at hj; subst hj; simp [Addr.add, World.cell?_alloc_at]) (fun u hu => by simp at hu; subst hu; rfl) (by omega) (by unfold maxLen; omega) (by omega) (by simp; omega) (wr.heap.size + 1) (by simp) ?_; intro gh caph w6 ho6 hg6 hgh hg6l; have l6 := ((Lies.drew L1.out).alloc (.cells #[.int .u64 (x : Int)] 32)).kept (Kept.of_grown hg6) (own_ne HH.out L1.out (by decide)); have e1 := (l6.cell 1).trans (show _ = some (Value.slice Ah k ch) from rfl); have e2 := l6.free 1)
        all_goals
          have hk6 : Kept (fun j => (Value.slice Ah k ch).ownBlock = some j) wr w6 := (Kept.drew _ wr).trans (kept_grown hg6) (fun _ _ h => h)
          have hge : ∀ j, (Value.slice Ah k ch).ownBlock = some j → w.heap.size ≤ j := fun j hj => (HH.out.lt j hj).1
          have hqw : w.heap.size < q := hq
          have hk7 : Kept (fun j => (Value.slice Ah k ch).ownBlock = some j ∨ j = q) wr (w6.setCell ⟨q, 1, none⟩ (.slice (some ⟨gh, 0, none⟩) (k + 1) caph)) :=
            (hk6.mono (fun _ _ h => Or.inl h)).trans (Kept.put w6 q 1 _) (fun _ _ h => Or.inr h)
          have n1 : Lies (w6.setCell ⟨q, 1, none⟩ (.slice (some ⟨gh, 0, none⟩) (k + 1) caph)) q 42 #[.int .u64 (R.tail : Int), .slice (some ⟨gh, 0, none⟩) (k + 1) caph, .bool R.cl, .slice A R.L.length c] := l6.put 1 _
          have n0 := L0.out.kept hk7 (fun h => by
            rcases h with h | h
            · exact own_ne HH.out L0.out (by decide) h
            · omega)
          have nr := HR.out.kept hk7 (fun h => by
            rcases h with h | h
            · have := hge _ h; omega
            · omega)
          have no := owns_kept HO.out hk7 (fun r cur hr hl h => by
            rcases h with h | h
            · exact own_ne HH.out hl (by decide) h
            · subst h; exact absurd (hl.same L1.out).1 (by decide))
          have nh := owns_put ho6 l6 (by decide) 1 (.slice (some ⟨gh, 0, none⟩) (k + 1) caph)
          rw [HNX.out] at nh
          have nb := HB.out.trans (hk7.below HB.out.size (fun j hj h => by
            rcases h with h | h
            · have := hge _ h; omega
            · omega))
          have N1 := Lib.hid n1
          have N0 := Lib.hid n0
          have NR := Lib.hid nr
          have NO := Lib.hid no
          have NH := Lib.hid nh
          have NB := Lib.hid nb
          clear hk6 hk7 n1 n0 nr no nh nb l6 e1 e2 ho6 hg6 hgh hge
          go_wp2
          go_roundw
          case rel => exact ⟨k + 1, _, caph, by omega, by go_num, N1.out, N0.out, NH.out, NR.out, NO.out, NB.out⟩
          case measure => simp [intOf]; omega
      · obtain rfl : k = R.rd := by omega
        have d0 := (l1.cell 0).trans (show _ = some (Value.int .u64 (R.tail : Int)) from rfl)
        have d1 := (l1.cell 1).trans (show _ = some (Value.slice Ah R.rd ch) from rfl)
        have d2 := (l1.cell 2).trans (show _ = some (Value.bool R.cl) from rfl)
        have d3 := (l1.cell 3).trans (show _ = some (Value.slice A R.L.length c) from rfl)
        have e0 := (l0.cell 0).trans (show _ = some (Value.int .u64 0) from rfl)
        have e1 := (l0.cell 1).trans (show _ = some (Value.slice none 0 0) from rfl)
        have e2 := (l0.cell 2).trans (show _ = some (Value.bool false) from rfl)
        have e3 := (l0.cell 3).trans (show _ = some (Value.slice none 0 0) from rfl)
        have f0 := l0.free 0
        have f1 := l0.free 1
        have f2 := l0.free 2
        have f3 := l0.free 3
        have hkb : Kept (oneRow w.heap.size) wr ((((wr.setCell ⟨w.heap.size, 0, none⟩ (.int .u64 (R.tail : Int))).setCell ⟨w.heap.size, 1, none⟩ (.slice Ah R.rd ch)).setCell ⟨w.heap.size, 2, none⟩ (.bool R.cl)).setCell ⟨w.heap.size, 3, none⟩ (.slice A R.L.length c)) :=
          (((Kept.put wr w.heap.size 0 _).trans (Kept.put _ w.heap.size 1 _) (fun _ _ h => h)).trans (Kept.put _ w.heap.size 2 _) (fun _ _ h => h)).trans (Kept.put _ w.heap.size 3 _) (fun _ _ h => h)
        have m : Lies ((((wr.setCell ⟨w.heap.size, 0, none⟩ (.int .u64 (R.tail : Int))).setCell ⟨w.heap.size, 1, none⟩ (.slice Ah R.rd ch)).setCell ⟨w.heap.size, 2, none⟩ (.bool R.cl)).setCell ⟨w.heap.size, 3, none⟩ (.slice A R.L.length c)) w.heap.size 42 #[.int .u64 (R.tail : Int), .slice Ah R.rd ch, .bool R.cl, .slice A R.L.length c] := (((l0.put 0 _).put 1 _).put 2 _).put 3 _
        have nh := owns_kept hh hkb (fun r cur hr hl (e : r = w.heap.size) => by subst e; exact absurd (hl.same l0).1 (by decide))
        have no := owns_kept ho hkb (fun r cur hr hl (e : r = w.heap.size) => by subst e; exact absurd (hl.same l0).1 (by decide))
        have nb := hb.trans (hkb.below hb.size (fun j hj (e : j = w.heap.size) => by omega))
        have q0 := (m.cell 0).trans (show _ = some (Value.int .u64 (R.tail : Int)) from rfl)
        have q1 := (m.cell 1).trans (show _ = some (Value.slice Ah R.rd ch) from rfl)
        have q2 := (m.cell 2).trans (show _ = some (Value.bool R.cl) from rfl)
        have q3 := (m.cell 3).trans (show _ = some (Value.slice A R.L.length c) from rfl)
        have NH := Lib.hid nh
        have NO := Lib.hid no
        have NB := Lib.hid nb
        clear hkb m nh no nb l1 l0 hh hr ho hb
        go_wp2
        refine bodyPost_ret (v := .agg #[.int .u64 (R.tail : Int), .slice Ah R.rd ch, .bool R.cl, .slice A R.L.length c]) (by simp [results, Try.results20, go_sem, q0, q1, q2, q3]) rfl ?_
        exact ⟨Ah, ch, A, c, rfl, NH.out, NO.out, NB.out⟩
end Go.Proofs.Ytahojmioonpodaa
