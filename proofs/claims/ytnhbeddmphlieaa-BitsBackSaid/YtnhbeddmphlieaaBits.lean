import Derived.Test.YtnhbeddmphlieaaBitmath
import Derived.Test.YtnhbeddmphlieaaStructs
import Derived.Laws.Bits64
import Derived.Laws.Bits64b
import Derived.RegionTactic
namespace Go.Proofs.Ytnhbeddmphlieaa
open Go.RowKit
set_option linter.unusedVariables false
set_option linter.unusedSimpArgs false
/-- A writer that has these bits; its row lies from block B on. -/
def BwAt (w : World) (B g : Nat) (l : List Bool) : Prop := ∃ v, Lies w g 26 #[v, .int .i64 l.length] ∧ w.ownsRow B 5 1 v (packB l).length (cellsB (packB l))
/-- What a writer's call may write: its own block, and rows of bytes from B on. -/
def bwRows (w : World) (B g : Nat) : Nat → Prop := fun k => k = g ∨ (B ≤ k ∧ ∃ cur, Lies w k 5 cur)
theorem row_lies {w : World} {B : Nat} {e : TypeId} {n cap : Nat} {r : Nat} {xs : List Value} (h : w.ownsRow B e 1 (.slice (some ⟨r, 0, none⟩) n cap) n xs) : ∃ cur, Lies w r e cur := by
  rcases owns_row h with ⟨h1, _⟩ | ⟨r', _, cur, h1, _, h2, _⟩
  · cases h1
  · simp only [Value.slice.injEq, Option.some.injEq, Addr.mk.injEq] at h1
    obtain ⟨⟨rfl, _⟩, _⟩ := h1
    exact ⟨cur, h2⟩
theorem lies_back {S : Nat → Prop} {w w' : World} {i : Nat} {t : TypeId} {cs : Array Value} (k : Kept S w w') (h : Lies w' i t cs) (hi : i < w.heap.size) (hn : ¬ S i) : Lies w i t cs := (k.at_ i hi hn).symm.trans h
theorem bw_trans {w0 w1 w2 : World} {B g : Nat} (h : Kept (bwRows w0 B g) w0 w1) (k : Kept (bwRows w1 B g) w1 w2) : Kept (bwRows w0 B g) w0 w2 :=
  h.trans k (fun i hi hs => by
    by_cases hn : bwRows w0 B g i
    · exact hn
    · rcases hs with rfl | ⟨h1, cur, h2⟩
      · exact absurd (.inl rfl) hn
      · exact .inr ⟨h1, cur, lies_back h h2 hi hn⟩)
theorem bool_u8 (b : Bool) : ((b.toNat : Nat) : Int) ≤ 1 := by cases b <;> simp
set_option maxHeartbeats 1000000 in
set_option maxRecDepth 100000 in
theorem bitsBit (B g : Nat) (l : List Bool) (b : Bool) (w : World) (h : BwAt w B g l) (hB : B ≤ w.heap.size) (hl : l.length ≤ 1099511627776) :
    Calls Try.prog 21 #[.pointer (some ⟨g, 0, none⟩), .int .u8 (b.toNat : Nat)] w fun e w' => e = .returned (.tuple #[]) ∧ BwAt w' B g (l ++ [b]) ∧ Kept (bwRows w B g) w w' := by
  obtain ⟨v, hli, ho⟩ := h
  have hq : (l.length : Int) / 8 = ((l.length / 8 : Nat) : Int) := by omega
  have hr : (l.length : Int) % 8 = ((l.length % 8 : Nat) : Int) := by omega
  have hpl := packB_length l
  have hor := packB_or l b
  have hp256 : b.toNat * 2 ^ (7 - l.length % 8) < 256 := by
    have : 2 ^ (7 - l.length % 8) ≤ 2 ^ 7 := Nat.pow_le_pow_right (by decide) (by omega)
    cases b <;> simp <;> omega
  have hor2 : bits .or .u8 ((byteN l (l.length / 8) : Nat) : Int) ((b.toNat : Int) * 2 ^ (7 - l.length % 8) % 256) = (byteN (l ++ [b]) (l.length / 8) : Nat) := by
    rw [← hor]
    congr 1
    have e : (b.toNat : Int) * 2 ^ (7 - l.length % 8) = ((b.toNat * 2 ^ (7 - l.length % 8) : Nat) : Int) := by rw [Int.natCast_mul, Int.natCast_pow]; rfl
    rw [e]; omega
  have HOR2 := Lib.hid hor2
  have hri : (0 : Int) ≤ 7 - ((l.length % 8 : Nat) : Int) := by omega
  have hr8 : (l.length % 8 : Nat) < 8 := by omega
  have hbv := byteN_lt (l ++ [b]) (l.length / 8)
  have hsame := packB_same l b
  have hmore := packB_more l b
  have hget := packB_get l (l.length / 8)
  have hout := byteN_out l (l.length / 8)
  clear hor hor2 hp256
  by_cases h8 : l.length % 8 = 0
  · have e0 : (((l.length % 8 : Nat) : Int) == 0) = true := by rw [beq_iff_eq]; omega
    have hPq : (packB l ++ [0])[l.length / 8]? = some (UInt8.ofNat (byteN l (l.length / 8))) := by
      rw [List.getElem?_append_right (by rw [hpl]; omega), hpl, show l.length / 8 - (l.length + 7) / 8 = 0 by omega, hout (by omega)]; rfl
    have hPs : (packB l ++ [0]).set (l.length / 8) (UInt8.ofNat (byteN (l ++ [b]) (l.length / 8))) = packB (l ++ [b]) := by
      rw [hmore h8, List.set_append_right _ _ (by rw [hpl]; omega), hpl, show l.length / 8 - (l.length + 7) / 8 = 0 by omega]; rfl
    have hpl2 : (packB (l ++ [b])).length = (packB l).length + 1 := by rw [← hPs]; simp
    have HPL2 := Lib.hid hpl2
    have hnl : (packB l).length ≤ 1099511627776 := by rw [hpl]; omega
    have hqn : l.length / 8 < (packB l).length + 1 := by rw [hpl]; omega
    have hqi : ((l.length / 8 : Nat) : Int) < ((packB l).length : Int) + 1 := by rw [hpl]; omega
    have HO := Lib.hid ho
    have HLI := Lib.hid hli
    have hne := own_ne ho hli (by decide)
    have c0 := hli.cell 0
    have c1 := hli.cell 1
    simp at c0 c1
    clear hsame hmore hget hout hpl h8 hpl2 ho hli
    generalize l.length / 8 = q at *
    generalize l.length % 8 = r8 at *
    go_enter Try.func21, Try.ntmps21
    go_wp2_with (at_builtin; refine append_one w (.int .u8 0) rfl (.tmp 14) (.tmp 15) 24 rfl B 5 _ _ Try.underlying24 Try.infoU8 rfl rfl _ _ _ rfl HO.out rfl (by unfold maxLen; omega) (by omega) hB ?_)
    intro v1 w1 ho1 hb1 hgr
    have ho1 : w1.ownsRow B 5 1 v1 ((packB l).length + 1) (cellsB (packB l ++ [0])) := by rw [cellsB_append]; exact ho1
    obtain ⟨r, cap, hv, hr1, hr2, hc1, hc2⟩ := owns_openS ho1 (by omega)
    rw [hv] at ho1
    rw [hv]
    have hl1 := (HLI.out.alloc (.cells #[Value.int .u8 0] 5)).kept (Kept.of_grown hgr) hne
    have g0 := hl1.cell 0
    have gf := hl1.free 0
    simp at g0
    have hli := hl1.put 0 (.slice (some ⟨r, 0, none⟩) ((packB l).length + 1) cap)
    rw [show (#[v, Value.int .i64 (l.length : Int)].setIfInBounds 0 (.slice (some ⟨r, 0, none⟩) ((packB l).length + 1) cap)) = #[Value.slice (some ⟨r, 0, none⟩) ((packB l).length + 1) cap, Value.int .i64 (l.length : Int)] from rfl] at hli
    have ho := owns_put ho1 hl1 (by decide) 0 (.slice (some ⟨r, 0, none⟩) ((packB l).length + 1) cap)
    have hvS : ∀ i, v.ownBlock = some i → bwRows w B g i := fun i hv => by
      rcases owns_row HO.out with ⟨rfl, _⟩ | ⟨r', _, cur, rfl, h2, h3, _⟩
      · cases hv
      · obtain rfl : r' = i := by simpa [Value.ownBlock] using hv
        exact .inr ⟨h2, cur, h3⟩
    have hk0 : Kept (bwRows w B g) w w1 := (kept_grown hgr).mono (fun i hi hv => hvS i hv)
    have hrS : ∀ i, i < w.heap.size → i = r → bwRows w B g i := fun i hi e => by
      subst e
      by_cases hn : bwRows w B g i
      · exact hn
      · obtain ⟨cur, hc⟩ := row_lies ho1
        exact .inr ⟨hr1, cur, lies_back hk0 hc hi hn⟩
    have hk := hk0.trans (Kept.put w1 g 0 (.slice (some ⟨r, 0, none⟩) ((packB l).length + 1) cap)) (fun i hi (e : i = g) => .inl e)
    unfold maxLen at hc2
    have hqn2 : q < (packB l).length + 1 := hqn
    clear hv hl1 ho1 hb1 hgr hk0 HO HLI hne c0 c1 hB hvS
    have hcl := owns_cell ho (k := q) (u := .int .u8 ((byteN l q : Nat) : Int)) (by unfold cellsB; rw [List.getElem?_map, hPq]; simp only [Option.map_some]; rw [byte_val])
    have hfr := owns_free ho hqn
    have hset := owns_set (u := .int .u8 ((byteN (l ++ [b]) q : Nat) : Int)) ho hqn
    rw [cellsB_set _ _ _ hbv, hPs] at hset
    have hrg : r ≠ g := fun e => by
      subst e
      rcases owns_row ho with ⟨h1, _⟩ | ⟨r', _, _, h1, _, h2, _⟩
      · cases h1
      · simp only [Value.slice.injEq, Option.some.injEq, Addr.mk.injEq] at h1
        obtain ⟨⟨rfl, _⟩, _⟩ := h1
        exact absurd (h2.same hli).1 (by decide)
    have c0 := hli.cell 0
    have c1 := hli.cell 1
    have f1 := hli.free 1
    simp at c0 c1
    have hliA := (Lies.far hli (p := ⟨r, q, none⟩) (fun e => hrg e.symm) (.int .u8 ((byteN (l ++ [b]) q : Nat) : Int))).drew
    have hb1 := (hliA.cell 1).trans (show _ = some (Value.int .i64 (l.length : Int)) from rfl)
    have hf1 := hliA.free 1
    have hll : (((l ++ [b]).length : Nat) : Int) = (l.length : Int) + 1 := by simp
    have hliB := hliA.put 1 (.int .i64 ((l.length : Int) + 1))
    rw [show (#[Value.slice (some ⟨r, 0, none⟩) (((packB l).length + 1)) cap, Value.int .i64 (l.length : Int)].setIfInBounds 1 (.int .i64 ((l.length : Int) + 1))) = #[Value.slice (some ⟨r, 0, none⟩) (((packB l).length + 1)) cap, Value.int .i64 ((l.length : Int) + 1)] from rfl] at hliB
    have hliC : Hid (((l ++ [b]).length : Int) = (l.length : Int) + 1) := hll
    have hset' := owns_drew hset
    have hoB := owns_put hset' hliA (by decide) 1 (.int .i64 ((l.length : Int) + 1))
    have hkB := ((hk.trans (Kept.put _ r q (.int .u8 ((byteN (l ++ [b]) q : Nat) : Int))) (fun i hi e => hrS i hi e)).trans (Kept.drew noRow _) (fun _ _ h => h.elim)).trans (Kept.put _ g 1 (.int .i64 ((l.length : Int) + 1))) (fun i hi (e : i = g) => .inl e)
    have HLB := Lib.hid hliB
    have HOB := Lib.hid hoB
    have HKB := Lib.hid hkB
    clear hli ho hset hset' hliA hliB hoB hkB hk hPq hPs hll
    go_wp2
    go_region
    rw [HOR2.out]
    generalize World.drew (World.setCell _ ⟨r, q, none⟩ (.int .u8 ((byteN (l ++ [b]) q : Nat) : Int))) = w1 at *
    go_wp2
    go_end0
    exact ⟨rfl, ⟨_, by rw [hliC.out]; exact HLB.out, by rw [HPL2.out]; exact HOB.out⟩, HKB.out⟩
  · have e0 : (((l.length % 8 : Nat) : Int) == 0) = false := by rw [beq_eq_false_iff_ne]; omega
    have hPq := hget (by omega)
    have hPs := (hsame h8).symm
    have hqn : l.length / 8 < (packB l).length := by rw [hpl]; omega
    have hpl2 : (packB (l ++ [b])).length = (packB l).length := by rw [← hPs]; simp
    have HPL2 := Lib.hid hpl2
    obtain ⟨r, cap, hv, hr1, hr2, hc1, hc2⟩ := owns_openS ho (by omega)
    rw [hv] at ho hli
    have hk : Kept (bwRows w B g) w w := Kept.refl _ _
    have hrS : ∀ i, i < w.heap.size → i = r → bwRows w B g i := fun i _ e => by subst e; exact .inr ⟨hr1, row_lies ho⟩
    have hqi : ((l.length / 8 : Nat) : Int) < ((packB l).length : Int) := by omega
    unfold maxLen at hc2
    clear hsame hmore hget hout hpl h8 hpl2
    generalize l.length / 8 = q at *
    generalize l.length % 8 = r8 at *
    go_enter Try.func21, Try.ntmps21
    have hcl := owns_cell ho (k := q) (u := .int .u8 ((byteN l q : Nat) : Int)) (by unfold cellsB; rw [List.getElem?_map, hPq]; simp only [Option.map_some]; rw [byte_val])
    have hfr := owns_free ho hqn
    have hset := owns_set (u := .int .u8 ((byteN (l ++ [b]) q : Nat) : Int)) ho hqn
    rw [cellsB_set _ _ _ hbv, hPs] at hset
    have hrg : r ≠ g := fun e => by
      subst e
      rcases owns_row ho with ⟨h1, _⟩ | ⟨r', _, _, h1, _, h2, _⟩
      · cases h1
      · simp only [Value.slice.injEq, Option.some.injEq, Addr.mk.injEq] at h1
        obtain ⟨⟨rfl, _⟩, _⟩ := h1
        exact absurd (h2.same hli).1 (by decide)
    have c0 := hli.cell 0
    have c1 := hli.cell 1
    have f1 := hli.free 1
    simp at c0 c1
    have hliA := (Lies.far hli (p := ⟨r, q, none⟩) (fun e => hrg e.symm) (.int .u8 ((byteN (l ++ [b]) q : Nat) : Int))).drew
    have hb1 := (hliA.cell 1).trans (show _ = some (Value.int .i64 (l.length : Int)) from rfl)
    have hf1 := hliA.free 1
    have hll : (((l ++ [b]).length : Nat) : Int) = (l.length : Int) + 1 := by simp
    have hliB := hliA.put 1 (.int .i64 ((l.length : Int) + 1))
    rw [show (#[Value.slice (some ⟨r, 0, none⟩) ((packB l).length) cap, Value.int .i64 (l.length : Int)].setIfInBounds 1 (.int .i64 ((l.length : Int) + 1))) = #[Value.slice (some ⟨r, 0, none⟩) ((packB l).length) cap, Value.int .i64 ((l.length : Int) + 1)] from rfl] at hliB
    have hliC : Hid (((l ++ [b]).length : Int) = (l.length : Int) + 1) := hll
    have hset' := owns_drew hset
    have hoB := owns_put hset' hliA (by decide) 1 (.int .i64 ((l.length : Int) + 1))
    have hkB := ((hk.trans (Kept.put _ r q (.int .u8 ((byteN (l ++ [b]) q : Nat) : Int))) (fun i hi e => hrS i hi e)).trans (Kept.drew noRow _) (fun _ _ h => h.elim)).trans (Kept.put _ g 1 (.int .i64 ((l.length : Int) + 1))) (fun i hi (e : i = g) => .inl e)
    have HLB := Lib.hid hliB
    have HOB := Lib.hid hoB
    have HKB := Lib.hid hkB
    clear hli ho hset hset' hliA hliB hoB hkB hk hPq hPs hll
    go_wp2
    go_region
    rw [HOR2.out]
    generalize World.drew (World.setCell _ ⟨r, q, none⟩ (.int .u8 ((byteN (l ++ [b]) q : Nat) : Int))) = w1 at *
    go_wp2
    go_end0
    exact ⟨rfl, ⟨_, by rw [hliC.out]; exact HLB.out, by rw [HPL2.out]; exact HOB.out⟩, HKB.out⟩
end Go.Proofs.Ytnhbeddmphlieaa
