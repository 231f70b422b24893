import Derived.Test.YtdlbgmkigfbfbaaLaws4
import Derived.Deep.RegionWith
namespace Go.Proofs.Ytdlbgmkigfbfbaa
open Go.RowKit
set_option linter.unusedVariables false
/-- A number b above. -/
def sh (b n : Nat) : Nat := (n + b) % M64
theorem sh_lt (b n : Nat) : sh b n < M64 := Nat.mod_lt _ (by decide)
theorem sh_wrap (b n : Nat) : IntKind.u64.wrap ((n : Int) + (b : Int)) = (sh b n : Int) := by
  rw [IntKind.wrap_u64]
  unfold sh M64
  omega
theorem sh_delta (b a n : Nat) (ha : a < M64) (hn : n < M64) : deltaOf (sh b a) (sh b n) = deltaOf a n := by
  unfold deltaOf
  have : (sh b n + (M64 - sh b a)) % M64 = (n + (M64 - a)) % M64 := by unfold sh M64 at *; omega
  rw [this]
theorem sh_deltas (b : Nat) (l : List Nat) : ∀ a, a < M64 → (∀ n ∈ l, n < M64) → deltas (sh b a) (l.map (sh b)) = deltas a l := by
  induction l with
  | nil => intro a _ _; rfl
  | cons n l ih =>
    intro a ha hl
    have hn := hl n (by simp)
    simp only [List.map_cons, deltas, sh_delta b a n ha hn, ih n hn (fun m hm => hl m (by simp [hm]))]
theorem owns_slice {w : World} {B : Nat} {e : TypeId} {v : Value} {n : Nat} {xs : List Value} (h : w.ownsRow B e 1 v n xs) (h0 : 0 < n) : ∃ r cap, v = .slice (some ⟨r, 0, none⟩) n cap ∧ B ≤ r ∧ r < w.heap.size ∧ n ≤ cap ∧ cap ≤ maxLen := by
  rcases owns_row h with ⟨_, h1, _⟩ | ⟨r, cap, cur, rfl, hb, hl, h1, h2⟩
  · omega
  · exact ⟨r, cap, rfl, hb, hl.lt, h1, h2⟩
theorem shift_get (b : Nat) (l : List Nat) (hl : ∀ n ∈ l, n < M64) (h0 : 0 < l.length) : ∃ n0, l[0]? = some n0 ∧ n0 < M64 ∧ (deltas 0 (l.map (sh b)))[0]? = some (deltaOf 0 (sh b n0)) ∧
    (∃ d0, (deltas 0 l)[0]? = some d0 ∧ d0 ≤ 18446744073709551615) ∧ ∀ k, 0 < k → k < l.length → ∃ d, d ≤ 18446744073709551615 ∧ (deltas 0 l)[k]? = some d ∧ (deltas 0 (l.map (sh b)))[k]? = some d := by
  cases l with
  | nil => simp at h0
  | cons n0 l =>
    refine ⟨n0, rfl, hl n0 (by simp), rfl, ⟨deltaOf 0 n0, rfl, ?_⟩, ?_⟩
    · have := deltaOf_lt 0 n0; unfold M64 at this; omega
    intro k h1 h2
    obtain ⟨k, rfl⟩ : ∃ j, k = j + 1 := ⟨k - 1, by omega⟩
    have e := sh_deltas b l n0 (hl n0 (by simp)) (fun m hm => hl m (by simp [hm]))
    have hk : k < (deltas n0 l).length := by rw [deltas_length]; simp at h2; omega
    refine ⟨(deltas n0 l)[k], ?_, ?_, ?_⟩
    · have := deltas_lt l n0 _ (List.getElem_mem hk); unfold M64 at this; omega
    · simp only [deltas, List.getElem?_cons_succ]; exact List.getElem?_eq_getElem hk
    · simp only [List.map_cons, deltas, List.getElem?_cons_succ, e]; exact List.getElem?_eq_getElem hk
theorem keepAlloc (o : Obj) {w w0 : World} {p q : Addr} {u v : Value} {B : Nat} (h1 : w.cell? p = some u) (h2 : w.cell? q = some v) (h3 : Below B w0 w) (h4 : B ≤ w.heap.size) :
    (w.alloc o).cell? p = some u ∧ (w.alloc o).cell? q = some v ∧ Below B w0 (w.alloc o) ∧ B ≤ (w.alloc o).heap.size := by
  have hb2 : Below w.heap.size w (w.alloc o) := (Below.refl _ _).alloc (Nat.le_refl _) o
  have k1 := World.block_lt_of_cell? w _ h1
  have k2 := World.block_lt_of_cell? w _ h2
  exact ⟨(hb2.cell k1).trans h1, (hb2.cell k2).trans h2, h3.trans (hb2.mono h4), Nat.le_trans h4 hb2.size⟩
theorem refOne (x : Int) (m : Nat) (hx : x = m) (hm : m < M64) (w w0 : World) (p q : Addr) (u v : Value) (B : Nat) (h1 : w.cell? p = some u) (h2 : w.cell? q = some v) (h3 : Below B w0 w) (h4 : B ≤ w.heap.size) :
    Calls Try.prog 15 #[.slice (some ⟨w.heap.size, 0, none⟩) 1 1] (w.alloc (.cells #[.int .u64 x] 22)) fun e w' => ∃ r cap, e = .returned (.slice (some ⟨r, 0, none⟩) 1 cap) ∧ 1 ≤ cap ∧ cap ≤ maxLen ∧ w'.cell? ⟨r, 0, none⟩ = some (.int .u64 (deltaOf 0 m)) ∧ (w'.cell? p = some u ∧ w'.cell? q = some v ∧ Below B w0 w' ∧ B ≤ w'.heap.size) := by
  subst hx
  have hs := lit_seq w #[.int .u64 (m : Int)] 1 [m] rfl rfl (by unfold maxLen; omega)
  refine (refDeltas _ [m] _ hs (fun n hn => by rw [List.mem_singleton.1 hn]; exact hm) (by simp)).mono ?_
  rintro e w' ⟨v', rfl, ho, hb⟩
  obtain ⟨r, cap, rfl, _, _, h5, h6⟩ := owns_slice ho (by simp)
  have hc := owns_cell ho (k := 0) (u := .int .u64 (deltaOf 0 m)) (by simp [cells64, deltas])
  have hb2 : Below w.heap.size w w' := ((Below.refl _ _).alloc (Nat.le_refl _) (.cells #[.int .u64 (m : Int)] 22)).trans (hb.mono (by simp))
  have k1 := World.block_lt_of_cell? w _ h1
  have k2 := World.block_lt_of_cell? w _ h2
  exact ⟨r, cap, rfl, h5, h6, hc, (hb2.cell k1).trans h1, (hb2.cell k2).trans h2, h3.trans (hb2.mono h4), Nat.le_trans h4 hb2.size⟩
set_option maxHeartbeats 4000000 in
theorem shift_walk (a0 : Option Addr) (len0 cap0 : Nat) (zs : List Int) (b : Int) (w : World) (w1 : ArgInts .u64 w a0 len0 cap0 zs) (w0 : (Lit.int .u64 b).wf = true) :
    Calls Try.prog 7 #[.slice a0 len0 cap0, .int .u64 b] w fun e w' => e = .returned (.bool true) ∧ Below w.heap.size w w' := by
  obtain ⟨b, rfl, hb64⟩ := u64_nat w0
  obtain ⟨l, hlt, hlen, hlc, hcm, hnil, hr⟩ := argNats w1
  have hcm2 : cap0 ≤ 9223372036854775807 := by unfold maxLen at hcm; omega
  have hb3 : b ≤ 18446744073709551615 := by unfold M64 at hb64; omega
  clear w0 w1
  by_cases h0 : len0 = 0
  · have e0 : ((len0 : Int) == (0 : Int)) = true := by simp; omega
    have e2 : (len0 == 0) = true := by simp; omega
    have hbel := Below.refl w.heap.size w
    go_enter Try.func7, Try.ntmps7
    go_wp2_with (go_at_call 8; refine (awake_any _).mono ?_; rintro e w1 ⟨rfl, hb⟩; have hbel := then_ hbel hb; clear hb)
    go_ret
    exact ⟨rfl, hbel⟩
  have e0 : ((len0 : Int) == (0 : Int)) = false := by simp; omega
  have e2 : (len0 == 0) = false := by simp; omega
  by_cases hb : 100 < len0
  · have e1 : decide ((100 : Int) < (len0 : Int)) = true := by simp; omega
    have hbel := Below.refl w.heap.size w
    go_enter Try.func7, Try.ntmps7
    go_wp2_with (go_at_call 8; refine (awake_any _).mono ?_; rintro e w1 ⟨rfl, hb⟩; have hbel := then_ hbel hb; clear hb)
    go_ret
    exact ⟨rfl, hbel⟩
  have e1 : decide ((100 : Int) < (len0 : Int)) = false := by simp; omega
  obtain rfl : l.length = len0 := hlen
  have HR := Lib.hid hr
  have HLT := Lib.hid hlt
  clear hr hlt hnil hb64
  go_enter Try.func7, Try.ntmps7
  go_wp2_with fail
  refine (awake_any w).mono ?_
  rintro e w1 ⟨rfl, k1⟩
  go_wp2_with fail
  have hs1 := k1.size
  go_loopw [5, 26] (fun o i wr => ∃ k : Nat, k ≤ l.length ∧ i = .int .i64 k ∧ wr.ownsRow w.heap.size 22 1 o k (cells64 ((l.map (sh b)).take k)) ∧ Below w.heap.size w wr)
    (fun _ i _ => l.length - (intOf i).toNat)
  case atStart => exact ⟨0, by omega, rfl, World.ownsRow_nil _ _ _ _, k1⟩
  case round =>
    clear k1 hs1 e0 e1 e2
    obtain ⟨k, hk, rfl, ho, hbl⟩ := hrel
    by_cases hlt : k < l.length
    · have hki : (k : Int) < (l.length : Int) := by omega
      obtain ⟨x, hx⟩ : ∃ x, l[k]? = some x := ⟨l[k], List.getElem?_eq_getElem hlt⟩
      have hx2 : x ≤ 18446744073709551615 := by have := HLT.out x (List.mem_of_getElem? hx); unfold M64 at this; omega
      obtain ⟨b', off, rfl, hc⟩ := HR.out.get hbl (k := k) (cells64_get hx)
      have HTK := Lib.hid (take_next (l := l.map (sh b)) (k := k) (n := sh b x) (by simp [hx]))
      have HUP := Lib.hid (sh_wrap b x)
      have hsz := hbl.size
      have HO := Lib.hid ho
      clear ho hx
      go_wp2_with (at_builtin; refine append_one wr (.int .u64 (IntKind.u64.wrap ((x : Int) + (b : Int)))) rfl (.tmp 30) (.tmp 34) 27 rfl w.heap.size 22 _ _ Try.underlying27 Try.infoU64 rfl rfl _ _ _ rfl HO.out rfl (by unfold maxLen; omega) (by omega) hsz ?_; intro v' w1 hown1 hb1 _)
      rw [HUP.out, HTK.out] at hown1
      go_roundw
      case rel => exact ⟨k + 1, by omega, by go_num, hown1, hbl.trans hb1⟩
      case measure => simp [intOf]; omega
    · obtain rfl : k = l.length := by omega
      rw [List.take_of_length_le (by simp)] at ho
      have hA := Lib.hid (SeqAt.of_arg HR.out hbl (cells64_length l) hlc hcm)
      have hM := Lib.hid (SeqAt.of_owns ho)
      have hm3 : (cells64 (l.map (sh b))).length = l.length := by simp [cells64]
      obtain ⟨r, cap, rfl, hr1, hr2, hr3, hr4⟩ := owns_slice ho (by omega)
      clear ho hm3
      go_wp2_with fail
      refine (deltaDeltas _ l wr hA.out HLT.out (by omega)).mono ?_
      rintro e w2 ⟨va, rfl, hoa, hba⟩
      have hbl := then_ hbl hba
      have hM2 := hM.out.later hba
      have hM2m : SeqAt w2 (.slice (some ⟨r, 0, none⟩) l.length cap) (cells64 (l.map (sh b))) := hM2
      clear hA hM
      go_wp2_with fail
      refine (deltaDeltas _ (l.map (sh b)) w2 hM2m (fun n hn => by obtain ⟨m, _, rfl⟩ := List.mem_map.1 hn; exact sh_lt _ _) (by rw [List.length_map]; omega)).mono ?_
      rintro e w3 ⟨vb, rfl, hob, hbb⟩
      have hbl := then_ hbl hbb
      have hA3 := Lib.hid ((SeqAt.of_owns hoa).later hbb)
      rw [List.length_map] at hob
      obtain ⟨n0, hn0, hn0m, hB0, ⟨d0, hA0, hd0⟩, hAB⟩ := shift_get b l HLT.out (by omega)
      obtain ⟨ra, ca, rfl, hra1, hra2, hra3, hra4⟩ := owns_slice hoa (by omega)
      obtain ⟨rb, cb, rfl, hrb1, hrb2, hrb3, hrb4⟩ := owns_slice hob (by omega)
      have gA : ∀ k d : Nat, (deltas 0 l)[k]? = some d → w3.cell? ⟨ra, k, none⟩ = some (.int .u64 (d : Int)) := fun k d h => (hbb.cell (p := ⟨ra, k, none⟩) hra2).trans (owns_cell hoa (cells64_get h))
      have gB : ∀ k d : Nat, (deltas 0 (l.map (sh b)))[k]? = some d → w3.cell? ⟨rb, k, none⟩ = some (.int .u64 (d : Int)) := fun k d h => owns_cell hob (cells64_get h)
      have hra9 : ra < w3.heap.size := by have := hbb.size; omega
      have GA := Lib.hid gA
      have GB := Lib.hid gB
      have HAB := Lib.hid hAB
      have HB0 := Lib.hid (gB 0 _ hB0)
      have HA0 := Lib.hid (gA 0 _ hA0)
      have HN0 := Lib.hid hn0
      obtain ⟨bl, offl, rfl, hl0⟩ := HR.out.get hbl (k := 0) (cells64_get hn0)
      have hcl0 : w3.cell? ⟨bl, offl, none⟩ = some (.int .u64 (n0 : Int)) := hl0
      have hq := hbb.size
      clear hoa hob hba hbb gA gB hAB hB0 hA0 hn0 hM2 hM2m hA3 hl0
      go_wp2_with fail
      go_loopw [10, 55] (fun o i wq => ∃ k : Nat, k ≤ l.length ∧ i = .int .i64 k ∧ Below w3.heap.size w3 wq)
        (fun _ i _ => l.length - (intOf i).toNat)
      case atStart => exact ⟨0, by omega, rfl, Below.refl _ _⟩
      case round =>
        obtain ⟨k, hk, rfl, hb4⟩ := hrel
        by_cases hlt : k < l.length
        · have hki : (k : Int) < (l.length : Int) := by omega
          by_cases hk0 : 0 < k
          · have ek : decide ((0 : Int) < (k : Int)) = true := by simp; omega
            have ek2 : decide (0 < k) = true := by simpa using hk0
            obtain ⟨d, hd, g1, g2⟩ := HAB.out k hk0 hlt
            have ca1 := (hb4.cell (p := ⟨ra, k, none⟩) hra9).trans (GA.out k d g1)
            have cb1 := (hb4.cell (p := ⟨rb, k, none⟩) hrb2).trans (GB.out k d g2)
            clear g1 g2
            go_wp2_with fail
            go_quiet (fail)
            have hb5 := hb4.trans ((below_drew _ nq).mono hb4.size)
            go_wp2
            go_roundw
            case rel => exact ⟨k + 1, by omega, by go_num, hb5⟩
            case measure => simp [intOf]; omega
          · have ek : decide ((0 : Int) < (k : Int)) = false := by simp; omega
            have ek2 : decide (0 < k) = false := by simpa using hk0
            go_wp2_with fail
            go_quiet (fail)
            have hb5 := hb4.trans ((below_drew _ nq).mono hb4.size)
            go_wp2
            go_roundw
            case rel => exact ⟨k + 1, by omega, by go_num, hb5⟩
            case measure => simp [intOf]; omega
        · obtain rfl : k = l.length := by omega
          have hl3 : bl < w3.heap.size := World.block_lt_of_cell? w3 _ hcl0
          have cl := (hb4.cell (p := ⟨bl, offl, none⟩) hl3).trans hcl0
          have cbb := (hb4.cell (p := ⟨rb, 0, none⟩) hrb2).trans HB0.out
          have hbl := hbl.trans (hb4.mono (by omega))
          have hs4 := hb4.size
          go_wp2_with fail
          have hz : (0 : Int) < (l.length : Int) := by omega
          have hz1 : 0 < l.length := by omega
          have hn03 : n0 ≤ 18446744073709551615 := by unfold M64 at hn0m; omega
          have hsh3 : sh b n0 ≤ 18446744073709551615 := by have := sh_lt b n0; unfold M64 at this; omega
          have hsw := sh_wrap b n0
          clear HR GA GB HAB HB0 HA0 HN0 hb4 HLT
          have hbs := hbl.size
          have hdr : Below w.heap.size w wr.drew := hbl.trans ⟨rfl, rfl, rfl, Nat.le_refl _, fun _ _ => rfl⟩
          clear hr1 hr2 hr3 hr4 hra2 hra3 hra4 hrb1 hrb2 hrb3 hrb4 hra9 hd0 hlc hcm hcm2 hs4
          obtain ⟨ca1, ca2, _, _⟩ := keepAlloc (w := wr) (.cells #[.int .u64 (sh b n0 : Nat)] 22) cl cbb hbl hbs
          go_region_with (go_at_call 15; refine (refOne _ (sh b n0) rfl (sh_lt _ _) wr.drew w ⟨bl, offl, none⟩ ⟨rb, 0, none⟩ _ _ w.heap.size cl cbb hdr hbs).mono ?_; rintro e w' ⟨r9, c9, rfl, p1, p2, q2, q3, q4, q5, q6⟩)
          all_goals (go_wp2; go_ret; exact ⟨rfl, by assumption⟩)
end Go.Proofs.Ytdlbgmkigfbfbaa
