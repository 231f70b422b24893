import Derived.Test.YtmadgdmiipgjoaaGreatZz4
namespace Go.Proofs.YtmadgdmiipgjoaaGreat
open Go.RowKit
set_option linter.unusedVariables false
set_option linter.unusedSimpArgs false
def rdMany : Nat → ByteArray → Nat → List Nat × Nat × Nat
 | 0, _, p => ([], 0, p)
 | c + 1, s, p =>
  if (rd (restOf s p)).2.1 = 0 then
   ((rd (restOf s p)).1 :: (rdMany c s (p + (rd (restOf s p)).2.2)).1, (rdMany c s (p + (rd (restOf s p)).2.2)).2.1, (rdMany c s (p + (rd (restOf s p)).2.2)).2.2)
  else ([], (rd (restOf s p)).2.1, p + (rd (restOf s p)).2.2)
def rdListErr (s : ByteArray) (p : Nat) (most : Int) : Nat :=
 if most < 0 then 1 else if (rd (restOf s p)).2.1 ≠ 0 then (rd (restOf s p)).2.1 else if most < (rd (restOf s p)).1 then 4 else (rdMany (rd (restOf s p)).1 s (p + (rd (restOf s p)).2.2)).2.1
def rdListAt (s : ByteArray) (p : Nat) (most : Int) : Nat :=
 if most < 0 then p else if (rd (restOf s p)).2.1 ≠ 0 then p + (rd (restOf s p)).2.2 else if most < (rd (restOf s p)).1 then p + (rd (restOf s p)).2.2 else (rdMany (rd (restOf s p)).1 s (p + (rd (restOf s p)).2.2)).2.2
def rdListOf (s : ByteArray) (p : Nat) (most : Int) : List Nat := if rdListErr s p most = 0 then (rdMany (rd (restOf s p)).1 s (p + (rd (restOf s p)).2.2)).1 else []
theorem many_more {n p0 p : Nat} {s : ByteArray} {d : List Nat} (hd : d.length < n)
  (h : rdMany n s p0 = (d ++ (rdMany (n - d.length) s p).1, (rdMany (n - d.length) s p).2.1, (rdMany (n - d.length) s p).2.2)) (he : (rd (restOf s p)).2.1 = 0) :
  rdMany n s p0 = (d ++ [(rd (restOf s p)).1] ++ (rdMany (n - (d.length + 1)) s (p + (rd (restOf s p)).2.2)).1, (rdMany (n - (d.length + 1)) s (p + (rd (restOf s p)).2.2)).2.1, (rdMany (n - (d.length + 1)) s (p + (rd (restOf s p)).2.2)).2.2) := by
 have e : n - d.length = n - (d.length + 1) + 1 := by omega
 rw [h, e, rdMany, if_pos he]
 simp
theorem many_stop {n p0 p : Nat} {s : ByteArray} {d : List Nat} (hd : d.length < n)
  (h : rdMany n s p0 = (d ++ (rdMany (n - d.length) s p).1, (rdMany (n - d.length) s p).2.1, (rdMany (n - d.length) s p).2.2)) (he : (rd (restOf s p)).2.1 ≠ 0) :
  (rdMany n s p0).2.1 = (rd (restOf s p)).2.1 ∧ (rdMany n s p0).2.2 = p + (rd (restOf s p)).2.2 := by
 have e : n - d.length = n - (d.length + 1) + 1 := by omega
 rw [h, e, rdMany, if_neg he]
 exact ⟨rfl, rfl⟩
theorem many_done {n p0 p : Nat} {s : ByteArray} {d : List Nat} (hd : d.length = n)
  (h : rdMany n s p0 = (d ++ (rdMany (n - d.length) s p).1, (rdMany (n - d.length) s p).2.1, (rdMany (n - d.length) s p).2.2)) : rdMany n s p0 = (d, 0, p) := by
 rw [h, hd, Nat.sub_self]; simp [rdMany]
set_option maxHeartbeats 1000000 in
theorem varintReadList (g : Nat) (s : ByteArray) (i : Nat) (most : Int) (w : World) (h : RdAt w g s i) (hs : s.size ≤ 1099511627776) (hm : most ≤ 9223372036854775807) :
  Calls Tryz.prog 97 #[.pointer (some ⟨g, 0, none⟩), .int .i64 most] w fun e w' => ∃ v,
  e = .returned (.tuple #[v, .int .i64 (rdListErr s i most)]) ∧ w'.ownsRow w.heap.size 34 1 v (rdListOf s i most).length (cells64 (rdListOf s i most)) ∧ RdAt w' g s (rdListAt s i most) ∧ Kept (oneRow g) w w' := by
 by_cases hneg : most < 0
 ·have hE : rdListErr s i most = 1 := by unfold rdListErr; rw [if_pos hneg]
  have hA : rdListAt s i most = i := by unfold rdListAt; rw [if_pos hneg]
  have hO : rdListOf s i most = [] := by unfold rdListOf; rw [hE]; rfl
  rw [hE, hA, hO]
  go_enter Tryz.func97, Tryz.ntmps97
  go_wp2
  go_ret2
  exact ⟨_, rfl, World.ownsRow_nil _ _ _ _, h, Kept.refl _ _⟩
 ·have e0 : decide (most < 0) = false := by simpa using hneg
  obtain ⟨M, rfl⟩ := Int.eq_ofNat_of_zero_le (by omega : 0 ≤ most)
  have hgs := h.1.lt
  have hE : rdListErr s i M = if (rd (restOf s i)).2.1 ≠ 0 then (rd (restOf s i)).2.1 else if M < (rd (restOf s i)).1 then 4 else (rdMany (rd (restOf s i)).1 s (i + (rd (restOf s i)).2.2)).2.1 := by
   unfold rdListErr; rw [if_neg hneg]; simp only [Int.ofNat_lt]
  have hA : rdListAt s i M = if (rd (restOf s i)).2.1 ≠ 0 then i + (rd (restOf s i)).2.2 else if M < (rd (restOf s i)).1 then i + (rd (restOf s i)).2.2 else (rdMany (rd (restOf s i)).1 s (i + (rd (restOf s i)).2.2)).2.2 := by
   unfold rdListAt; rw [if_neg hneg]; simp only [Int.ofNat_lt]
  have hO : rdListOf s i M = if rdListErr s i M = 0 then (rdMany (rd (restOf s i)).1 s (i + (rd (restOf s i)).2.2)).1 else [] := rfl
  have hb := rd_bound (restOf s i)
  have hused := rd_ok (restOf s i)
  go_enter Tryz.func97, Tryz.ntmps97
  have HE := Lib.hid hE
  have HA := Lib.hid hA
  have HO := Lib.hid hO
  have HU := Lib.hid hused
  clear hE hA hO hused
  go_wp2_with fail
  refine (varintRead g s i w h).mono ?_
  rintro e w1 ⟨rfl, h1, k1⟩
  generalize hr : rd (restOf s i) = r at *
  clear hr
  obtain ⟨n, er, c⟩ := r
  simp only at hb h1
  by_cases her : er = 0
  ·subst her
   have hc1 : 1 ≤ c := HU.out rfl
   by_cases hbig : M < n
   ·have e1 : decide (M < n) = true := by simpa using hbig
    have qE : rdListErr s i M = 4 := by rw [HE.out]; simp [hbig]
    have qA : rdListAt s i M = i + c := by rw [HA.out]; simp [hbig]
    have qO : rdListOf s i M = [] := by rw [HO.out, qE]; rfl
    have QE := Lib.hid qE
    have QA := Lib.hid qA
    have QO := Lib.hid qO
    clear qE qA qO
    go_wp2
    go_ret2
    exact ⟨_, ret_two rfl (v_int (by rw [QE.out]; rfl)), by rw [QO.out]; exact World.ownsRow_nil _ _ _ _, by rw [QA.out]; exact h1, k1⟩
   ·have e1 : decide (M < n) = false := by simpa using hbig
    have qE : rdListErr s i M = (rdMany n s (i + c)).2.1 := by rw [HE.out]; simp [hbig]
    have qA : rdListAt s i M = (rdMany n s (i + c)).2.2 := by rw [HA.out]; simp [hbig]
    have qO : rdListOf s i M = if (rdMany n s (i + c)).2.1 = 0 then (rdMany n s (i + c)).1 else [] := by rw [HO.out, qE]
    have QE := Lib.hid qE
    have QA := Lib.hid qA
    have QO := Lib.hid qO
    clear qE qA qO HE HA HO HU
    go_wp2_with fail
    have hs1 := k1.size
    go_loopw [8] (fun t wr => ∃ (d : List Nat) (p : Nat), d.length ≤ n ∧ d.length ≤ p ∧ RdAt wr g s p ∧ wr.ownsRow w.heap.size 34 1 t d.length (cells64 d) ∧ Kept (oneRow g) w wr ∧
      Hid (rdMany n s (i + c) = (d ++ (rdMany (n - d.length) s p).1, (rdMany (n - d.length) s p).2.1, (rdMany (n - d.length) s p).2.2)))
     (fun t _ => n - (match t with | .slice _ l _ => l | _ => 0))
    case atStart => exact ⟨[], i + c, by simp, by simp, h1, World.ownsRow_nil _ _ _ _, k1, rfl⟩
    case round =>
     clear h1 k1
     obtain ⟨d, p, hd1, hd2, hr, ho, hk, hm⟩ := hrel
     have hp := hr.2.1
     have hwr : w.heap.size ≤ wr.heap.size := hk.size
     obtain ⟨A, cap, rfl⟩ : ∃ A cap, u8 = .slice A d.length cap := by
      rcases owns_row ho with ⟨e1, e2, _⟩ | ⟨r, cap, cur, e1, _⟩
      ·exact ⟨none, 0, by rw [e1, e2]⟩
      ·exact ⟨_, cap, e1⟩
     by_cases hlt : d.length < n
     ·have e2 : decide (d.length < n) = true := by simpa using hlt
      have hb2 := rd_bound (restOf s p)
      have hu2 := rd_ok (restOf s p)
      have hmore := Lib.hid (many_more hlt hm.out)
      have hstop := Lib.hid (many_stop hlt hm.out)
      have HU2 := Lib.hid hu2
      clear hm hu2
      go_wp2_with fail
      refine (varintRead g s p wr hr).mono ?_
      rintro e w2 ⟨rfl, h2, k2⟩
      have ho2 := owns_kept ho k2 (fun r cur _ hl (e : r = g) => by subst e; exact absurd (hl.same hr.1).1 (by decide))
      have k2 := hk.trans k2 (fun _ _ h => h)
      have hw2 : w.heap.size ≤ w2.heap.size := k2.size
      clear hr hk ho
      generalize rd (restOf s p) = r2 at *
      obtain ⟨n2, er2, c2⟩ := r2
      simp only at hb2 h2
      by_cases her2 : er2 = 0
      ·subst her2
       have hc2 : 1 ≤ c2 := HU2.out rfl
       have HM := Lib.hid (hmore.out rfl)
       clear hmore hstop HU2
       have hp2 := h2.2.1
       go_wp2_with (at_builtin; refine append_one w2 (.int .u64 n2) rfl (.tmp 38) (.tmp 40) 46 rfl w.heap.size 34 _ _ Tryz.underlying46 Tryz.infoU64 rfl rfl _ _ _ rfl ho2 rfl (by unfold maxLen; omega) (by omega) hw2 ?_; intro v' w3 hown3 hb3 hgr3)
       rw [cells64_push] at hown3
       have k3 := kept_append k2 ho2 (Nat.le_refl _) hgr3
       have h3 := h2.kept (kept_grown hgr3) (own_ne ho2 h2.1 (by decide))
       clear h2 ho2 k2 hgr3 hb3
       go_roundw
       case rel => exact ⟨d ++ [n2], p + c2, by rw [List.length_append]; simp; omega, by rw [List.length_append]; simp; omega, h3, by rw [List.length_append]; exact hown3, k3, by rw [List.length_append]; exact HM⟩
       case measure =>
        rcases owns_row hown3 with ⟨_, e5, _⟩ | ⟨r, cap, cur, e5, _⟩
        ·omega
        ·rw [e5]; simp; omega
      ·have e3 : ((er2 : Int) != 0) = true := by simp; omega
       obtain ⟨q1, q2⟩ := hstop.out her2
       have qO : rdListOf s i M = [] := by rw [QO.out, q1]; simp [her2]
       have qE : rdListErr s i M = er2 := by rw [QE.out, q1]
       have qA : rdListAt s i M = p + c2 := by rw [QA.out, q2]
       have QO := Lib.hid qO
       have QE := Lib.hid qE
       have QA := Lib.hid qA
       clear q1 q2 qO qE qA hmore hstop HU2
       go_wp2
       go_ret2
       exact ⟨_, ret_two rfl (v_int (by rw [QE.out])), by rw [QO.out]; exact World.ownsRow_nil _ _ _ _, by rw [QA.out]; exact h2, k2⟩
     ·have e2 : decide (d.length < n) = false := by simpa using hlt
      have hres := many_done (by omega) hm.out
      rw [hres] at QE QA QO
      clear hm hres
      go_wp2
      go_ret2
      exact ⟨_, ret_two rfl (v_int (by rw [QE.out]; rfl)), by rw [QO.out]; exact ho, by rw [QA.out]; exact hr, hk⟩
  ·have e1 : ((er : Int) == 0) = false := by simp; omega
   have e2 : ((er : Int) != 0) = true := by simp; omega
   have qE : rdListErr s i M = er := by rw [HE.out]; simp [her]
   have qA : rdListAt s i M = i + c := by rw [HA.out]; simp [her]
   have qO : rdListOf s i M = [] := by rw [HO.out, qE]; simp [her]
   have QE := Lib.hid qE
   have QA := Lib.hid qA
   have QO := Lib.hid qO
   clear qE qA qO HE HA HO HU
   go_wp2
   go_ret2
   exact ⟨_, ret_two rfl (v_int (by rw [QE.out])), by rw [QO.out]; exact World.ownsRow_nil _ _ _ _, by rw [QA.out]; exact h1, k1⟩
theorem deltaPrint (v : Value) (xs : List Nat) (w : World) (h : SeqAt w v (cells64 xs)) (hx : ∀ n ∈ xs, n < M64) (hl : xs.length ≤ 1099511627776) :
  Calls Tryz.prog 75 #[v] w fun e w' => e = .returned (.string (textB (encList (deltas 0 xs)))) ∧ Below w.heap.size w w' := by
 go_enter Tryz.func75, Tryz.ntmps75
 go_wp2_with fail
 refine (deltaDeltas v xs w h hx hl).mono ?_
 rintro e w1 ⟨v1, rfl, ho1, hb1⟩
 go_wp2_with fail
 refine (varintPrintList v1 _ w1 (SeqAt.of_owns ho1) (deltas_lt xs 0) (by rw [deltas_length]; exact hl)).mono ?_
 rintro e w2 ⟨rfl, hb2⟩
 go_wp2
 go_ret
 exact ⟨rfl, then_ hb1 hb2⟩
theorem rdMany_lt (c : Nat) : ∀ (s : ByteArray) (p : Nat), ∀ n ∈ (rdMany c s p).1, n < M64 := by
 induction c with
 | zero => intro s p; simp [rdMany]
 | succ c ih =>
  intro s p n hn
  rw [rdMany] at hn
  split at hn
  ·simp only [List.mem_cons] at hn
   rcases hn with rfl | hn
   ·have := rd_bound (restOf s p); unfold M64; omega
   ·exact ih _ _ n hn
  ·simp at hn
theorem rdMany_len (c : Nat) : ∀ (s : ByteArray) (p : Nat), p ≤ s.size → (rdMany c s p).1.length ≤ s.size - p := by
 induction c with
 | zero => intro s p _; simp [rdMany]
 | succ c ih =>
  intro s p hp
  rw [rdMany]
  split
  ·rename_i h
   have h1 := rd_ok _ h
   have h2 := rdV_used 10 0 0 (restOf s p)
   have h3 : (restOf s p).length = s.size - p := by simp [restOf]
   have : p + (rd (restOf s p)).2.2 ≤ s.size := by unfold rd at *; omega
   have := ih s _ this
   simp only [List.length_cons]
   omega
  ·simp
theorem rdListOf_lt (s : ByteArray) (p : Nat) (m : Int) : ∀ n ∈ rdListOf s p m, n < M64 := by
 intro n hn
 unfold rdListOf at hn
 split at hn
 ·exact rdMany_lt _ _ _ n hn
 ·simp at hn
theorem rdListOf_len (s : ByteArray) (p : Nat) (m : Int) (hp : p ≤ s.size) : (rdListOf s p m).length ≤ s.size := by
 unfold rdListOf
 split
 ·have h2 := rdV_used 10 0 0 (restOf s p)
  have h3 : (restOf s p).length = s.size - p := by simp [restOf]
  have : p + (rd (restOf s p)).2.2 ≤ s.size := by unfold rd at *; omega
  have := rdMany_len (rd (restOf s p)).1 s _ this
  omega
 ·simp
def dlList (s : ByteArray) (i : Nat) (most : Int) : List Nat := sums 0 (rdListOf s i most)
theorem deltaRead (g : Nat) (s : ByteArray) (i : Nat) (most : Int) (w : World) (h : RdAt w g s i) (hs : s.size ≤ 1099511627776) (hm : most ≤ 9223372036854775807) :
  Calls Tryz.prog 76 #[.pointer (some ⟨g, 0, none⟩), .int .i64 most] w fun e w' => ∃ v,
  e = .returned (.tuple #[v, .int .i64 (rdListErr s i most)]) ∧ w'.ownsRow w.heap.size 34 1 v (dlList s i most).length (cells64 (dlList s i most)) ∧ RdAt w' g s (rdListAt s i most) ∧ Kept (oneRow g) w w' := by
 have hgs := h.1.lt
 have hO : rdListErr s i most ≠ 0 → dlList s i most = [] := fun he => by unfold dlList rdListOf; rw [if_neg he]; rfl
 have HO := Lib.hid hO
 have hlt := rdListOf_lt s i most
 have hlen := rdListOf_len s i most h.2.1
 have HLT := Lib.hid hlt
 clear hO hlt
 go_enter Tryz.func76, Tryz.ntmps76
 go_wp2_with fail
 refine (varintReadList g s i most w h hs hm).mono ?_
 rintro e w1 ⟨v1, rfl, ho1, hr1, hk1⟩
 by_cases he : rdListErr s i most = 0
 ·have HE := Lib.hid he
  have e1 : ((rdListErr s i most : Int) != 0) = false := by rw [he]; rfl
  clear he
  go_wp2_with fail
  refine (deltaSums v1 _ w1 (SeqAt.of_owns ho1) HLT.out (by omega)).mono ?_
  rintro e w2 ⟨v2, rfl, ho2, hb2⟩
  go_wp2
  go_ret2
  exact ⟨_, ret_two rfl (v_int (by rw [HE.out]; rfl)), by
   have h2 := owns_mono ho2 (B' := w.heap.size) hk1.size
   have hle := sums_length (rdListOf s i most) 0
   unfold dlList
   rw [hle]
   exact h2, hr1.kept (Kept.of_below hb2) (fun h => h), hk1.trans (Kept.of_below hb2) (fun _ _ h => h.elim)⟩
 ·have e1 : ((rdListErr s i most : Int) != 0) = true := by simp; omega
  have HE := Lib.hid (HO.out he)
  clear he
  go_wp2
  go_ret2
  exact ⟨_, rfl, by rw [HE.out]; exact World.ownsRow_nil _ _ _ _, hr1, hk1⟩
def sm21 (n : Nat) : Int := ((min n 255 : Nat) : Int)
def setKd (x : Ev) (n : Nat) : Ev := ⟨x.th, sm21 n, x.rg, x.tk, x.vl⟩
def setRg (x : Ev) (n : Nat) : Ev := ⟨x.th, x.kd, sm21 n, x.tk, x.vl⟩
def setTk (x : Ev) (n : Nat) : Ev := ⟨x.th, x.kd, x.rg, n, x.vl⟩
def setVl (x : Ev) (n : Nat) : Ev := ⟨x.th, x.kd, x.rg, x.tk, n⟩
def fillK (u : Int → Bool) (st : Ev → Nat → Ev) (own : List Ev) (ns : List Nat) : Nat → Option (List Ev × Nat)
 | 0 => some (own, 0)
 | k + 1 => match fillK u st own ns k with
  | none => none
  | some (cur, j) => match own[k]? with
   | none => some (cur, j)
   | some x => if u x.kd = true then (match ns[j]? with | none => none | some n => some (cur.set k (st x n), j + 1)) else some (cur, j)
def fillR (u : Int → Bool) (st : Ev → Nat → Ev) (own : List Ev) (ns : List Nat) : Option (List Ev) :=
 match fillK u st own ns own.length with
 | none => none
 | some (cur, j) => if j = ns.length then some cur else none
section
variable {u : Int → Bool} {st : Ev → Nat → Ev} {own : List Ev} {ns : List Nat}
theorem fillK_ok : ∀ (k : Nat) (cur : List Ev) (j : Nat), fillK u st own ns k = some (cur, j) → cur.length = own.length ∧ j ≤ ns.length ∧ j ≤ k ∧ ∀ m, k ≤ m → cur[m]? = own[m]?
 | 0, cur, j, h => by
  simp only [fillK, Option.some.injEq, Prod.mk.injEq] at h
  obtain ⟨rfl, rfl⟩ := h
  exact ⟨rfl, Nat.zero_le _, Nat.le_refl _, fun _ _ => rfl⟩
 | k + 1, cur, j, h => by
  unfold fillK at h
  rcases hf : fillK u st own ns k with _ | ⟨c, i⟩
  ·rw [hf] at h; cases h
  ·rw [hf] at h
   obtain ⟨h1, h2, h3, h4⟩ := fillK_ok k c i hf
   simp only at h
   rcases hx : own[k]? with _ | x
   ·rw [hx] at h
    simp only [Option.some.injEq, Prod.mk.injEq] at h
    obtain ⟨rfl, rfl⟩ := h
    exact ⟨h1, h2, by omega, fun m hm => h4 m (by omega)⟩
   ·rw [hx] at h
    simp only at h
    by_cases hu : u x.kd = true
    ·rw [if_pos hu] at h
     rcases hn : ns[i]? with _ | n
     ·rw [hn] at h; cases h
     ·rw [hn] at h
      simp only [Option.some.injEq, Prod.mk.injEq] at h
      obtain ⟨rfl, rfl⟩ := h
      have := (List.getElem?_eq_some_iff.1 hn).1
      exact ⟨by rw [List.length_set]; exact h1, by omega, by omega, fun m hm => by rw [List.getElem?_set_ne (by omega)]; exact h4 m (by omega)⟩
    ·rw [if_neg hu] at h
     simp only [Option.some.injEq, Prod.mk.injEq] at h
     obtain ⟨rfl, rfl⟩ := h
     exact ⟨h1, h2, by omega, fun m hm => h4 m (by omega)⟩
theorem fillK_skip {k j : Nat} {cur : List Ev} {x : Ev} (h : fillK u st own ns k = some (cur, j)) (hx : own[k]? = some x) (hu : u x.kd = false) : fillK u st own ns (k + 1) = some (cur, j) := by
 unfold fillK; rw [h]; simp only; rw [hx]; simp only; rw [hu]; rfl
theorem fillK_put {k j n : Nat} {cur : List Ev} {x : Ev} (h : fillK u st own ns k = some (cur, j)) (hx : own[k]? = some x) (hu : u x.kd = true) (hn : ns[j]? = some n) : fillK u st own ns (k + 1) = some (cur.set k (st x n), j + 1) := by
 unfold fillK; rw [h]; simp only; rw [hx]; simp only; rw [hu, if_pos rfl, hn]
theorem fillK_none {k j : Nat} {cur : List Ev} {x : Ev} (h : fillK u st own ns k = some (cur, j)) (hx : own[k]? = some x) (hu : u x.kd = true) (hn : ns[j]? = none) : fillK u st own ns (k + 1) = none := by
 unfold fillK; rw [h]; simp only; rw [hx]; simp only; rw [hu, if_pos rfl, hn]
theorem fillK_gone : ∀ (d k : Nat), fillK u st own ns k = none → fillK u st own ns (k + d) = none
 | 0, k, h => h
 | d + 1, k, h => by
  rw [show k + (d + 1) = (k + d) + 1 by omega]
  unfold fillK
  rw [fillK_gone d k h]
theorem fillR_none {k : Nat} (hk : k ≤ own.length) (h : fillK u st own ns k = none) : fillR u st own ns = none := by
 unfold fillR
 have := fillK_gone (own.length - k) k h
 rw [show k + (own.length - k) = own.length by omega] at this
 rw [this]
theorem fillR_end {cur : List Ev} {j : Nat} (h : fillK u st own ns own.length = some (cur, j)) : fillR u st own ns = if j = ns.length then some cur else none := by
 unfold fillR; rw [h]
end
theorem small21 (n : Nat) (w : World) (h : n < 18446744073709551616) : Calls Tryz.prog 60 #[.int .u64 (n : Int)] w fun e w' => e = .returned (.int .i64 (sm21 n)) ∧ w = w' := by
 by_cases hn : n < 255
 ·have HS : Hid (sm21 n = (n : Int)) := by show _ = _; unfold sm21; omega
  have hm : min (n : Int) 255 = (n : Int) := by omega
  have e1 : decide ((n : Int) < 255) = true := decide_eq_true (by omega)
  have e2 : decide ((255 : Int) < (n : Int)) = false := decide_eq_false (by omega)
  have hi : IntKind.i64.wrap (n : Int) = (n : Int) := by rw [IntKind.wrap_i64]; omega
  go_enter Tryz.func60, Tryz.ntmps60
  go_wp2_with fail
  go_ret
  exact ⟨by rw [HS.out]; rfl, rfl⟩
 ·have HS : Hid (sm21 n = 255) := by show _ = _; unfold sm21; omega
  have hm : min (n : Int) 255 = 255 := by omega
  have e1 : decide ((n : Int) < 255) = false := decide_eq_false (by omega)
  have hn2 : ¬ ((n : Int) < 255) := by omega
  go_enter Tryz.func60, Tryz.ntmps60
  go_wp2_with fail
  go_ret
  exact ⟨by rw [HS.out]; rfl, rfl⟩
theorem kindsSet (p o n : Nat) (v0 : Value) (w : World) (hn : n < 18446744073709551616) (hc : w.cell? ⟨p, o + 1, none⟩ = some v0) (hf : w.frozen? ⟨p, o + 1, none⟩ = false) :
  Calls Tryz.prog 69 #[.pointer (some ⟨p, o, none⟩), .int .u64 (n : Int)] w fun e w' => e = .returned (.tuple #[]) ∧ w' = w.setCell ⟨p, o + 1, none⟩ (.int .i64 (sm21 n)) := by
 have HS := Lib.hid (small21 n w hn)
 have hl := World.block_lt_of_cell? w _ hc
 go_enter Tryz.func69, Tryz.ntmps69
 go_wp2_with fail
 refine HS.out.mono ?_
 rintro e w1 ⟨rfl, rfl⟩
 go_wp2
 go_end0
 exact ⟨rfl, rfl⟩
theorem ringSet (p o n : Nat) (v0 : Value) (w : World) (hn : n < 18446744073709551616) (hc : w.cell? ⟨p, o + 2, none⟩ = some v0) (hf : w.frozen? ⟨p, o + 2, none⟩ = false) :
  Calls Tryz.prog 71 #[.pointer (some ⟨p, o, none⟩), .int .u64 (n : Int)] w fun e w' => e = .returned (.tuple #[]) ∧ w' = w.setCell ⟨p, o + 2, none⟩ (.int .i64 (sm21 n)) := by
 have HS := Lib.hid (small21 n w hn)
 have hl := World.block_lt_of_cell? w _ hc
 go_enter Tryz.func71, Tryz.ntmps71
 go_wp2_with fail
 refine HS.out.mono ?_
 rintro e w1 ⟨rfl, rfl⟩
 go_wp2
 go_end0
 exact ⟨rfl, rfl⟩
theorem ticketSet (p o n : Nat) (v0 : Value) (w : World) (hn : n < 18446744073709551616) (hc : w.cell? ⟨p, o + 3, none⟩ = some v0) (hf : w.frozen? ⟨p, o + 3, none⟩ = false) :
  Calls Tryz.prog 74 #[.pointer (some ⟨p, o, none⟩), .int .u64 (n : Int)] w fun e w' => e = .returned (.tuple #[]) ∧ w' = w.setCell ⟨p, o + 3, none⟩ (.int .u64 (n : Int)) := by
 have hl := World.block_lt_of_cell? w _ hc
 go_enter Tryz.func74, Tryz.ntmps74
 go_wp2
 go_end0
 exact ⟨rfl, rfl⟩
theorem valueSet (p o n : Nat) (v0 : Value) (w : World) (hn : n < 18446744073709551616) (hc : w.cell? ⟨p, o + 4, none⟩ = some v0) (hf : w.frozen? ⟨p, o + 4, none⟩ = false) :
  Calls Tryz.prog 78 #[.pointer (some ⟨p, o, none⟩), .int .u64 (n : Int)] w fun e w' => e = .returned (.tuple #[]) ∧ w' = w.setCell ⟨p, o + 4, none⟩ (.int .u64 (n : Int)) := by
 have hl := World.block_lt_of_cell? w _ hc
 go_enter Tryz.func78, Tryz.ntmps78
 go_wp2
 go_end0
 exact ⟨rfl, rfl⟩
theorem enterKU (a : Array Value) (wx : World) : (callFunc 67 a).run Tryz.prog wx = .ok (.enter 67 a) wx := by kernel_rfl
theorem enterKG (a : Array Value) (wx : World) : (callFunc 68 a).run Tryz.prog wx = .ok (.enter 68 a) wx := by kernel_rfl
theorem enterRU (a : Array Value) (wx : World) : (callFunc 63 a).run Tryz.prog wx = .ok (.enter 63 a) wx := by kernel_rfl
theorem enterRG (a : Array Value) (wx : World) : (callFunc 70 a).run Tryz.prog wx = .ok (.enter 70 a) wx := by kernel_rfl
theorem enterTG (a : Array Value) (wx : World) : (callFunc 73 a).run Tryz.prog wx = .ok (.enter 73 a) wx := by kernel_rfl
theorem enterVG (a : Array Value) (wx : World) : (callFunc 77 a).run Tryz.prog wx = .ok (.enter 77 a) wx := by kernel_rfl
theorem enterUF (a : Array Value) (wx : World) : (callFunc 94 a).run Tryz.prog wx = .ok (.enter 94 a) wx := by kernel_rfl
theorem enterRP (a : Array Value) (wx : World) : (callFunc 18 a).run Tryz.prog wx = .ok (.enter 18 a) wx := by kernel_rfl
theorem enterDP (a : Array Value) (wx : World) : (callFunc 75 a).run Tryz.prog wx = .ok (.enter 75 a) wx := by kernel_rfl
theorem own_lt21 {w : World} {B : Nat} {e : TypeId} {sz n : Nat} {v : Value} {xs : List Value} (h : w.ownsRow B e sz v n xs) {r : Nat} (hv : v.ownBlock = some r) : B ≤ r ∧ r < w.heap.size := by
 have := h.lt r hv
 exact ⟨this.1, this.2⟩
theorem ev_cell {w : World} {B n c r k fo : Nat} {cur : List Ev} {x : Ev} (h : w.ownsRow B 36 5 (.slice (some ⟨r, 0, none⟩) n c) n (rowsOf evF cur)) (hx : cur[k]? = some x) (hfo : fo < 5) :
  w.cell? ⟨r, k * 5 + fo, none⟩ = (evF x)[fo]? ∧ w.frozen? ⟨r, k * 5 + fo, none⟩ = false := by
 obtain ⟨b9, off9, hA9, _, hc⟩ := SeqS.at_ evF_length (by decide) (SeqS.of_owns h) hx
 simp only [Option.some.injEq, Addr.mk.injEq, and_true] at hA9
 obtain ⟨rfl, rfl⟩ := hA9
 obtain ⟨v0, hv0⟩ : ∃ v0, (evF x)[fo]? = some v0 := ⟨_, List.getElem?_eq_getElem (by rw [evF_length]; exact hfo)⟩
 have h1 := hc fo v0 hfo hv0
 rw [Nat.zero_add] at h1
 refine ⟨h1.trans hv0.symm, ?_⟩
 rcases owns_row h with ⟨h9, _⟩ | ⟨r9, c9, cur9, h9, _, hl9, _⟩
 ·cases h9
 ·simp only [Value.slice.injEq, Option.some.injEq, Addr.mk.injEq, and_true, true_and] at h9
  obtain ⟨rfl, _⟩ := h9
  exact hl9.free _
def rdRows (A : Option Addr) (n c g : Nat) : Nat → Prop := fun k => k = g ∨ (Value.slice A n c).ownBlock = some k
def RaPost (u : Int → Bool) (st : Ev → Nat → Ev) (own : List Ev) (ns : List Nat) (er : Nat) (A : Option Addr) (c B : Nat) (e : Ending) (w' : World) : Prop :=
 (er = 0 ∧ ∃ cur, fillR u st own ns = some cur ∧ e = .returned (.bool true) ∧ w'.ownsRow B 36 5 (.slice A own.length c) own.length (rowsOf evF cur)) ∨ ((er ≠ 0 ∨ fillR u st own ns = none) ∧ e = .returned (.bool false))
set_option maxHeartbeats 8000000 in
set_option maxRecDepth 100000 in
theorem readAll0 (nu nst nr : Nat) (gt pr : Value) (u : Int → Bool) (st : Ev → Nat → Ev) (fo : Nat) (val : Nat → Value) (ns : List Nat) (er i' : Nat) (own : List Ev) (A : Option Addr) (c B g i : Nat) (s : ByteArray) (w : World)
  (hE : w.ownsRow B 36 5 (.slice A own.length c) own.length (rowsOf evF own)) (hl : own.length ≤ 70000) (hR : RdAt w g s i) (hfo : fo < 5)
  (hgt : gt.oneCell' = true) (hpr : pr.oneCell' = true) (hst : ∀ x n, evF (st x n) = (evF x).set fo (val n)) (hns : ∀ n ∈ ns, n < 18446744073709551616)
  (hcu : ∀ a wx, (callFunc nu a).run Tryz.prog wx = .ok (.enter nu a) wx) (hcs : ∀ a wx, (callFunc nst a).run Tryz.prog wx = .ok (.enter nst a) wx) (hcr : ∀ a wx, (callFunc nr a).run Tryz.prog wx = .ok (.enter nr a) wx)
  (HRd : ∀ wx, RdAt wx g s i → Calls Tryz.prog nr #[.pointer (some ⟨g, 0, none⟩), .int .i64 (own.length : Int)] wx fun e w' => ∃ v, e = .returned (.tuple #[v, .int .i64 (er : Nat)]) ∧ w'.ownsRow wx.heap.size 34 1 v ns.length (cells64 ns) ∧ RdAt w' g s i' ∧ Kept (oneRow g) wx w')
  (HU : ∀ wx, Kept (rdRows A own.length c g) w wx → ∀ k : Int, Calls Tryz.prog nu (#[.int .i64 k]) wx fun e w' => e = .returned (.bool (u k)) ∧ Below wx.heap.size wx w')
  (HS : ∀ (wx : World) (p o n : Nat) (v0 : Value), n < 18446744073709551616 → wx.cell? ⟨p, o + fo, none⟩ = some v0 → wx.frozen? ⟨p, o + fo, none⟩ = false → Calls Tryz.prog nst #[.pointer (some ⟨p, o, none⟩), .int .u64 (n : Int)] wx fun e w' => e = .returned (.tuple #[]) ∧ w' = wx.setCell ⟨p, o + fo, none⟩ (val n)) :
  Calls Tryz.prog 93 #[.agg #[.func (.func nu) #[] #[], gt, .func (.func nst) #[] #[], pr, .func (.func nr) #[] #[]], .pointer (some ⟨g, 0, none⟩), .slice A own.length c] w fun e w' =>
   RdAt w' g s i' ∧ Kept (rdRows A own.length c g) w w' ∧ RaPost u st own ns er A c B e w' := by
 obtain ⟨Q0, cQ, hQ, hq1, hq2, _⟩ := (SeqS.of_owns hE).form
 simp only [Value.slice.injEq, true_and] at hQ
 obtain ⟨rfl, rfl⟩ := hQ
 unfold maxLen at hq2
 have hb0 := (Below.refl w.heap.size w).alloc (Nat.le_refl _) (.cells #[.func (.func nu) #[] #[], gt, .func (.func nst) #[] #[], pr, .func (.func nr) #[] #[]] 74)
 have HLS := Lib.hid (Lies.made w 74 #[.func (.func nu) #[] #[], gt, .func (.func nst) #[] #[], pr, .func (.func nr) #[] #[]])
 have HE := Lib.hid (owned_below hE hb0)
 have HR := Lib.hid (show RdAt (w.alloc (.cells #[.func (.func nu) #[] #[], gt, .func (.func nst) #[] #[], pr, .func (.func nr) #[] #[]] 74)) g s i from ⟨hR.1.below hb0 hR.1.lt, hR.2⟩)
 have HK := Lib.hid ((Kept.of_below hb0).mono (T := rdRows A own.length c g) (fun _ _ (hf : noRow _) => hf.elim))
 have HUU := Lib.hid HU
 have HSS := Lib.hid HS
 have HRR := Lib.hid HRd
 have HNS := Lib.hid hns
 have HST := Lib.hid hst
 have hgz := hR.1.lt
 have hab : ∀ r, (Value.slice A own.length c).ownBlock = some r → r < w.heap.size := fun r hr => (own_lt21 hE hr).2
 have HAB := Lib.hid hab
 clear hE hR hb0 HU HS HRd hns hst hab
 go_enter Tryz.func93, Tryz.ntmps93
 go_upto_region 1 with (fail)
 obtain ⟨q0, hq0⟩ : ∃ q, q = w.heap.size := ⟨_, rfl⟩
 have hgq : g < q0 := by omega
 rw [← hq0] at HLS HAB ⊢
 clear hq0
 generalize w.alloc (.cells #[.func (.func nu) #[] #[], gt, .func (.func nst) #[] #[], pr, .func (.func nr) #[] #[]] 74) = w0 at *
 have s4 := (HLS.out.cell 4).trans (show _ = some (Value.func (.func nr) #[] #[]) from rfl)
 have sl := HLS.out.lt
 go_wp2_with fail
 refine (HRR.out w0 HR.out).mono ?_
 rintro e w1 ⟨v1, rfl, ho1, hr1, hk1⟩
 have HLS1 := Lib.hid (HLS.out.kept hk1 (fun (e : q0 = g) => by omega))
 have HE1 := Lib.hid (owns_kept HE.out hk1 (fun r cur _ hl2 (e : r = g) => by subst e; exact absurd (hl2.same HR.out.1).1 (by decide)))
 have HK1 := Lib.hid (HK.out.trans hk1 (fun k hk (e : k = g) => .inl e))
 have HN1 := Lib.hid ho1
 have HR1 := Lib.hid hr1
 obtain ⟨A1, c1, rfl⟩ := own_sl21 ho1
 obtain ⟨hn1, hn2⟩ : ns.length ≤ c1 ∧ c1 ≤ 9223372036854775807 := by
  obtain ⟨A9, c9, e9, h91, h92, _⟩ := (SeqS.of_owns ho1).form
  simp only [Value.slice.injEq, true_and] at e9
  obtain ⟨rfl, rfl⟩ := e9
  unfold maxLen at h92
  omega
 obtain ⟨N1, hN1⟩ : ∃ N1, N1 = w0.heap.size := ⟨_, rfl⟩
 rw [← hN1] at HN1
 clear s4 sl HLS HE HR HK ho1 hr1 hk1 HRR hN1
 by_cases her : er = 0
 ·subst her
  go_wp2_with fail
  go_loopw [9, 24] (fun nx t wr => ∃ (k j : Nat) (cur : List Ev), k ≤ own.length ∧ t = .int .i64 k ∧ nx = .int .i64 j ∧ Hid (fillK u st own ns k = some (cur, j)) ∧ Hid (wr.ownsRow B 36 5 (.slice A own.length c) own.length (rowsOf evF cur)) ∧ Hid (RdAt wr g s i') ∧ Hid (wr.ownsRow N1 34 1 (.slice A1 ns.length c1) ns.length (cells64 ns)) ∧
    Hid (Lies wr q0 74 #[.func (.func nu) #[] #[], gt, .func (.func nst) #[] #[], pr, .func (.func nr) #[] #[]]) ∧ Hid (Kept (rdRows A own.length c g) w wr)) (fun _ t _ => own.length - (intOf t).toNat)
  case atStart => exact ⟨0, 0, own, by omega, rfl, rfl, rfl, HE1.out, HR1.out, HN1.out, HLS1.out, HK1.out⟩
  case round =>
   clear HE1 HR1 HN1 HLS1 HK1
   obtain ⟨k, j, cur, hk, rfl, rfl, hf, he, hr, hn, hls, hkk⟩ := hrel
   obtain ⟨f1, f2, f3, f4⟩ := fillK_ok k cur j hf.out
   have F4 := Lib.hid f4
   clear f4
   by_cases hlt : k < own.length
   ·have hki : (k : Int) < (own.length : Int) := by omega
    obtain ⟨x, hx⟩ : ∃ x, own[k]? = some x := ⟨_, List.getElem?_eq_getElem hlt⟩
    have hcx : cur[k]? = some x := by rw [F4.out k (Nat.le_refl _)]; exact hx
    obtain ⟨r, hA⟩ : ∃ r, A = some ⟨r, 0, none⟩ := by
     rcases owns_row he.out with ⟨_, h0, _⟩ | ⟨r, c9, cur9, h9, _⟩
     ·omega
     ·simp only [Value.slice.injEq] at h9
      exact ⟨r, h9.1⟩
    subst hA
    have c1x := (ev_cell he.out hcx (fo := 1) (by decide)).1
    rw [show (evF x)[1]? = some (Value.int .i64 x.kd) from rfl] at c1x
    have HX := Lib.hid hx
    have HCX := Lib.hid hcx
    have s0 := (hls.out.cell 0).trans (show _ = some (Value.func (.func nu) #[] #[]) from rfl)
    have sl := hls.out.lt
    have hrl := World.block_lt_of_cell? wr _ c1x
    simp only at hrl
    clear hx hcx
    go_wp2_with fail
    go_still_tail 7, (by kernel_rfl)
    clear s0 c1x
    go_wp2_with fail
    refine (HUU.out wr.drew (hkk.out.trans (Kept.drew _ _) (fun _ _ h => h)) x.kd).mono ?_
    rintro e w3 ⟨rfl, hb3⟩
    have hb : Below wr.heap.size wr w3 := (show Below wr.heap.size wr wr.drew from below_drewN (Below.refl _ _) 1).trans hb3
    have HE3 := Lib.hid (owned_below he.out hb)
    have HR3 := Lib.hid (show RdAt w3 g s i' from ⟨hr.out.1.below hb hr.out.1.lt, hr.out.2⟩)
    have HN3 := Lib.hid (owned_below hn.out hb)
    have HLS3 := Lib.hid (hls.out.below hb hls.out.lt)
    have HK3 := Lib.hid (hkk.out.trans (Kept.of_below hb) (fun _ _ (hf : noRow _) => hf.elim))
    have hrl3 : r < w3.heap.size := Nat.lt_of_lt_of_le hrl hb.size
    clear hb3 hb he hr hn hls hkk sl
    obtain ⟨ub, hub⟩ : ∃ ub, u x.kd = ub := ⟨_, rfl⟩
    have HUB := Lib.hid hub
    rw [hub]
    clear hub
    cases ub with
    | false =>
     have HF := Lib.hid (fillK_skip hf.out HX.out HUB.out)
     go_wp2_with fail
     go_roundw
     case rel => exact ⟨k + 1, j, cur, by omega, by go_num, rfl, HF, HE3, HR3, HN3, HLS3, HK3⟩
     case measure => simp [intOf]; omega
    | true =>
     by_cases hj : j < ns.length
     ·have hji : (j : Int) < (ns.length : Int) := by omega
      have y1 : ((j : Int) == (ns.length : Int)) = false := by simp; omega
      have y2 : (j == ns.length) = false := by simp; omega
      obtain ⟨n, hn⟩ : ∃ n, ns[j]? = some n := ⟨_, List.getElem?_eq_getElem hj⟩
      have hn64 := HNS.out n (List.mem_of_getElem? hn)
      have HF := Lib.hid (fillK_put hf.out HX.out HUB.out hn)
      obtain ⟨pn, cpn, hpn, _, hpl, _, _, hpc⟩ := ownsRow_open HN3.out (by omega)
      have hA1 : A1 = some ⟨pn, 0, none⟩ := by
       simp only [Value.slice.injEq] at hpn
       exact hpn.1
      subst hA1
      have cn := hpc j (.int .u64 (n : Int)) (by unfold cells64; rw [List.getElem?_map, hn]; rfl)
      obtain ⟨cfo, ffo⟩ := ev_cell HE3.out HCX.out hfo
      obtain ⟨v0, hv0⟩ : ∃ v0, (evF x)[fo]? = some v0 := ⟨_, List.getElem?_eq_getElem (by rw [evF_length]; exact hfo)⟩
      rw [hv0] at cfo
      have CFO := Lib.hid cfo
      have FFO := Lib.hid ffo
      have s2 := (HLS3.out.cell 2).trans (show _ = some (Value.func (.func nst) #[] #[]) from rfl)
      have sl := HLS3.out.lt
      clear hpc hpn cfo ffo hv0 hn y1
      have y1 : ((j : Int) == (ns.length : Int)) = false := by simp; omega
      go_wp2_with fail
      go_still_tail 9, (by kernel_rfl)
      clear s2 cn
      go_wp2_with fail
      refine (HSS.out w3.drew r (k * 5) n v0 hn64 CFO.out FFO.out).mono ?_
      rintro e w4 ⟨rfl, rfl⟩
      have hdr : Below w3.heap.size w3 w3.drew := below_drewN (Below.refl _ _) 1
      have he3 := owned_below HE3.out hdr
      have hset := owned_set (u := val n) he3 (k := k * 5 + fo) (by rw [rowsOf_length evF_length, f1]; omega)
      rw [rowsOf_set1 evF_length HCX.out hfo (HST.out x n)] at hset
      have HE4 := Lib.hid hset
      have hkp := Kept.put w3.drew r (k * 5 + fo) (val n)
      have hty : ∀ (t : TypeId) (cs : Array Value) (q : Nat), t ≠ 36 → Lies w3.drew q t cs → ¬ oneRow r q := fun t cs q hne hl2 (e : q = r) => by
       subst e
       exact own_ne he3 hl2 (fun h => hne h.symm) rfl
      have HR4 := Lib.hid (show RdAt (w3.drew.setCell ⟨r, k * 5 + fo, none⟩ (val n)) g s i' from ⟨(HR3.out.1.below hdr HR3.out.1.lt).kept hkp (hty _ _ _ (by decide) (HR3.out.1.below hdr HR3.out.1.lt)), HR3.out.2⟩)
      have HN4 := Lib.hid (owns_kept (owned_below HN3.out hdr) hkp (fun q cur9 _ hl2 => hty _ _ _ (by decide) hl2))
      have HLS4 := Lib.hid ((HLS3.out.below hdr HLS3.out.lt).kept hkp (hty _ _ _ (by decide) (HLS3.out.below hdr HLS3.out.lt)))
      have HK4 := Lib.hid ((HK3.out.trans (Kept.drew _ _) (fun _ _ h => h)).trans hkp (fun q hq (e : q = r) => by subst e; exact .inr rfl))
      clear he3 hset hkp hty hdr HE3 HR3 HN3 HLS3 HK3 sl
      go_wp2
      go_roundw
      case rel => exact ⟨k + 1, j + 1, cur.set k (st x n), by omega, by go_num, by go_num, HF, HE4, HR4, HN4, HLS4, HK4⟩
      case measure => simp [intOf]; omega
     ·obtain rfl : ns.length = j := by omega
      have HF := Lib.hid (fillR_none (k := k + 1) (by omega) (fillK_none hf.out HX.out HUB.out (List.getElem?_eq_none (Nat.le_refl _))))
      go_wp2_with fail
      go_ret
      exact ⟨HR3.out, HK3.out, .inr ⟨.inr HF.out, rfl⟩⟩
   ·obtain rfl : own.length = k := by omega
    have hfr := fillR_end hf.out
    by_cases hjn : j = ns.length
    ·subst hjn
     rw [if_pos rfl] at hfr
     have HFR := Lib.hid hfr
     clear hfr
     go_wp2_with fail
     go_ret
     exact ⟨hr.out, hkk.out, .inl ⟨rfl, cur, HFR.out, by simp, he.out⟩⟩
    ·rw [if_neg hjn] at hfr
     have HFR := Lib.hid hfr
     have y1 : ((j : Int) == (ns.length : Int)) = false := by simp; omega
     have y2 : (j == ns.length) = false := by simpa using hjn
     clear hfr
     go_wp2_with fail
     go_ret
     exact ⟨hr.out, hkk.out, .inr ⟨.inr HFR.out, by simp [hjn]⟩⟩
 ·have x1 : ((er : Int) != 0) = true := by simp; omega
  go_wp2_with fail
  go_ret
  exact ⟨HR1.out, HK1.out, .inr ⟨.inl her, rfl⟩⟩
set_option maxHeartbeats 8000000 in
set_option maxRecDepth 100000 in
theorem readAll1 (nu nst nr : Nat) (gs : Nat) (gt pr : Value) (u : Int → Bool) (st : Ev → Nat → Ev) (fo : Nat) (val : Nat → Value) (ns : List Nat) (er i' : Nat) (own : List Ev) (A : Option Addr) (c B g i : Nat) (s : ByteArray) (w : World)
  (hE : w.ownsRow B 36 5 (.slice A own.length c) own.length (rowsOf evF own)) (hl : own.length ≤ 70000) (hR : RdAt w g s i) (hfo : fo < 5)
  (hgt : gt.oneCell' = true) (hpr : pr.oneCell' = true) (hst : ∀ x n, evF (st x n) = (evF x).set fo (val n)) (hns : ∀ n ∈ ns, n < 18446744073709551616)
  (hcu : ∀ a wx, (callFunc nu a).run Tryz.prog wx = .ok (.enter nu a) wx) (hcs : ∀ a wx, (callFunc nst a).run Tryz.prog wx = .ok (.enter nst a) wx) (hcr : ∀ a wx, (callFunc nr a).run Tryz.prog wx = .ok (.enter nr a) wx)
  (HRd : ∀ wx, RdAt wx g s i → Calls Tryz.prog nr #[.pointer (some ⟨g, 0, none⟩), .int .i64 (own.length : Int)] wx fun e w' => ∃ v, e = .returned (.tuple #[v, .int .i64 (er : Nat)]) ∧ w'.ownsRow wx.heap.size 34 1 v ns.length (cells64 ns) ∧ RdAt w' g s i' ∧ Kept (oneRow g) wx w')
  (HU : ∀ wx, Kept (rdRows A own.length c g) w wx → ∀ k : Int, Calls Tryz.prog nu (#[.int .i64 k, .pointer (some ⟨gs, 0, none⟩)]) wx fun e w' => e = .returned (.bool (u k)) ∧ Below wx.heap.size wx w')
  (HS : ∀ (wx : World) (p o n : Nat) (v0 : Value), n < 18446744073709551616 → wx.cell? ⟨p, o + fo, none⟩ = some v0 → wx.frozen? ⟨p, o + fo, none⟩ = false → Calls Tryz.prog nst #[.pointer (some ⟨p, o, none⟩), .int .u64 (n : Int)] wx fun e w' => e = .returned (.tuple #[]) ∧ w' = wx.setCell ⟨p, o + fo, none⟩ (val n)) :
  Calls Tryz.prog 93 #[.agg #[.func (.func nu) #[] #[.pointer (some ⟨gs, 0, none⟩)], gt, .func (.func nst) #[] #[], pr, .func (.func nr) #[] #[]], .pointer (some ⟨g, 0, none⟩), .slice A own.length c] w fun e w' =>
   RdAt w' g s i' ∧ Kept (rdRows A own.length c g) w w' ∧ RaPost u st own ns er A c B e w' := by
 obtain ⟨Q0, cQ, hQ, hq1, hq2, _⟩ := (SeqS.of_owns hE).form
 simp only [Value.slice.injEq, true_and] at hQ
 obtain ⟨rfl, rfl⟩ := hQ
 unfold maxLen at hq2
 have hb0 := (Below.refl w.heap.size w).alloc (Nat.le_refl _) (.cells #[.func (.func nu) #[] #[.pointer (some ⟨gs, 0, none⟩)], gt, .func (.func nst) #[] #[], pr, .func (.func nr) #[] #[]] 74)
 have HLS := Lib.hid (Lies.made w 74 #[.func (.func nu) #[] #[.pointer (some ⟨gs, 0, none⟩)], gt, .func (.func nst) #[] #[], pr, .func (.func nr) #[] #[]])
 have HE := Lib.hid (owned_below hE hb0)
 have HR := Lib.hid (show RdAt (w.alloc (.cells #[.func (.func nu) #[] #[.pointer (some ⟨gs, 0, none⟩)], gt, .func (.func nst) #[] #[], pr, .func (.func nr) #[] #[]] 74)) g s i from ⟨hR.1.below hb0 hR.1.lt, hR.2⟩)
 have HK := Lib.hid ((Kept.of_below hb0).mono (T := rdRows A own.length c g) (fun _ _ (hf : noRow _) => hf.elim))
 have HUU := Lib.hid HU
 have HSS := Lib.hid HS
 have HRR := Lib.hid HRd
 have HNS := Lib.hid hns
 have HST := Lib.hid hst
 have hgz := hR.1.lt
 have hab : ∀ r, (Value.slice A own.length c).ownBlock = some r → r < w.heap.size := fun r hr => (own_lt21 hE hr).2
 have HAB := Lib.hid hab
 clear hE hR hb0 HU HS HRd hns hst hab
 go_enter Tryz.func93, Tryz.ntmps93
 go_upto_region 1 with (fail)
 obtain ⟨q0, hq0⟩ : ∃ q, q = w.heap.size := ⟨_, rfl⟩
 have hgq : g < q0 := by omega
 rw [← hq0] at HLS HAB ⊢
 clear hq0
 generalize w.alloc (.cells #[.func (.func nu) #[] #[.pointer (some ⟨gs, 0, none⟩)], gt, .func (.func nst) #[] #[], pr, .func (.func nr) #[] #[]] 74) = w0 at *
 have s4 := (HLS.out.cell 4).trans (show _ = some (Value.func (.func nr) #[] #[]) from rfl)
 have sl := HLS.out.lt
 go_wp2_with fail
 refine (HRR.out w0 HR.out).mono ?_
 rintro e w1 ⟨v1, rfl, ho1, hr1, hk1⟩
 have HLS1 := Lib.hid (HLS.out.kept hk1 (fun (e : q0 = g) => by omega))
 have HE1 := Lib.hid (owns_kept HE.out hk1 (fun r cur _ hl2 (e : r = g) => by subst e; exact absurd (hl2.same HR.out.1).1 (by decide)))
 have HK1 := Lib.hid (HK.out.trans hk1 (fun k hk (e : k = g) => .inl e))
 have HN1 := Lib.hid ho1
 have HR1 := Lib.hid hr1
 obtain ⟨A1, c1, rfl⟩ := own_sl21 ho1
 obtain ⟨hn1, hn2⟩ : ns.length ≤ c1 ∧ c1 ≤ 9223372036854775807 := by
  obtain ⟨A9, c9, e9, h91, h92, _⟩ := (SeqS.of_owns ho1).form
  simp only [Value.slice.injEq, true_and] at e9
  obtain ⟨rfl, rfl⟩ := e9
  unfold maxLen at h92
  omega
 obtain ⟨N1, hN1⟩ : ∃ N1, N1 = w0.heap.size := ⟨_, rfl⟩
 rw [← hN1] at HN1
 clear s4 sl HLS HE HR HK ho1 hr1 hk1 HRR hN1
 by_cases her : er = 0
 ·subst her
  go_wp2_with fail
  go_loopw [9, 24] (fun nx t wr => ∃ (k j : Nat) (cur : List Ev), k ≤ own.length ∧ t = .int .i64 k ∧ nx = .int .i64 j ∧ Hid (fillK u st own ns k = some (cur, j)) ∧ Hid (wr.ownsRow B 36 5 (.slice A own.length c) own.length (rowsOf evF cur)) ∧ Hid (RdAt wr g s i') ∧ Hid (wr.ownsRow N1 34 1 (.slice A1 ns.length c1) ns.length (cells64 ns)) ∧
    Hid (Lies wr q0 74 #[.func (.func nu) #[] #[.pointer (some ⟨gs, 0, none⟩)], gt, .func (.func nst) #[] #[], pr, .func (.func nr) #[] #[]]) ∧ Hid (Kept (rdRows A own.length c g) w wr)) (fun _ t _ => own.length - (intOf t).toNat)
  case atStart => exact ⟨0, 0, own, by omega, rfl, rfl, rfl, HE1.out, HR1.out, HN1.out, HLS1.out, HK1.out⟩
  case round =>
   clear HE1 HR1 HN1 HLS1 HK1
   obtain ⟨k, j, cur, hk, rfl, rfl, hf, he, hr, hn, hls, hkk⟩ := hrel
   obtain ⟨f1, f2, f3, f4⟩ := fillK_ok k cur j hf.out
   have F4 := Lib.hid f4
   clear f4
   by_cases hlt : k < own.length
   ·have hki : (k : Int) < (own.length : Int) := by omega
    obtain ⟨x, hx⟩ : ∃ x, own[k]? = some x := ⟨_, List.getElem?_eq_getElem hlt⟩
    have hcx : cur[k]? = some x := by rw [F4.out k (Nat.le_refl _)]; exact hx
    obtain ⟨r, hA⟩ : ∃ r, A = some ⟨r, 0, none⟩ := by
     rcases owns_row he.out with ⟨_, h0, _⟩ | ⟨r, c9, cur9, h9, _⟩
     ·omega
     ·simp only [Value.slice.injEq] at h9
      exact ⟨r, h9.1⟩
    subst hA
    have c1x := (ev_cell he.out hcx (fo := 1) (by decide)).1
    rw [show (evF x)[1]? = some (Value.int .i64 x.kd) from rfl] at c1x
    have HX := Lib.hid hx
    have HCX := Lib.hid hcx
    have s0 := (hls.out.cell 0).trans (show _ = some (Value.func (.func nu) #[] #[.pointer (some ⟨gs, 0, none⟩)]) from rfl)
    have sl := hls.out.lt
    have hrl := World.block_lt_of_cell? wr _ c1x
    simp only at hrl
    clear hx hcx
    go_wp2_with fail
    go_still_tail 7, (by kernel_rfl)
    clear s0 c1x
    go_wp2_with fail
    refine (HUU.out wr.drew (hkk.out.trans (Kept.drew _ _) (fun _ _ h => h)) x.kd).mono ?_
    rintro e w3 ⟨rfl, hb3⟩
    have hb : Below wr.heap.size wr w3 := (show Below wr.heap.size wr wr.drew from below_drewN (Below.refl _ _) 1).trans hb3
    have HE3 := Lib.hid (owned_below he.out hb)
    have HR3 := Lib.hid (show RdAt w3 g s i' from ⟨hr.out.1.below hb hr.out.1.lt, hr.out.2⟩)
    have HN3 := Lib.hid (owned_below hn.out hb)
    have HLS3 := Lib.hid (hls.out.below hb hls.out.lt)
    have HK3 := Lib.hid (hkk.out.trans (Kept.of_below hb) (fun _ _ (hf : noRow _) => hf.elim))
    have hrl3 : r < w3.heap.size := Nat.lt_of_lt_of_le hrl hb.size
    clear hb3 hb he hr hn hls hkk sl
    obtain ⟨ub, hub⟩ : ∃ ub, u x.kd = ub := ⟨_, rfl⟩
    have HUB := Lib.hid hub
    rw [hub]
    clear hub
    cases ub with
    | false =>
     have HF := Lib.hid (fillK_skip hf.out HX.out HUB.out)
     go_wp2_with fail
     go_roundw
     case rel => exact ⟨k + 1, j, cur, by omega, by go_num, rfl, HF, HE3, HR3, HN3, HLS3, HK3⟩
     case measure => simp [intOf]; omega
    | true =>
     by_cases hj : j < ns.length
     ·have hji : (j : Int) < (ns.length : Int) := by omega
      have y1 : ((j : Int) == (ns.length : Int)) = false := by simp; omega
      have y2 : (j == ns.length) = false := by simp; omega
      obtain ⟨n, hn⟩ : ∃ n, ns[j]? = some n := ⟨_, List.getElem?_eq_getElem hj⟩
      have hn64 := HNS.out n (List.mem_of_getElem? hn)
      have HF := Lib.hid (fillK_put hf.out HX.out HUB.out hn)
      obtain ⟨pn, cpn, hpn, _, hpl, _, _, hpc⟩ := ownsRow_open HN3.out (by omega)
      have hA1 : A1 = some ⟨pn, 0, none⟩ := by
       simp only [Value.slice.injEq] at hpn
       exact hpn.1
      subst hA1
      have cn := hpc j (.int .u64 (n : Int)) (by unfold cells64; rw [List.getElem?_map, hn]; rfl)
      obtain ⟨cfo, ffo⟩ := ev_cell HE3.out HCX.out hfo
      obtain ⟨v0, hv0⟩ : ∃ v0, (evF x)[fo]? = some v0 := ⟨_, List.getElem?_eq_getElem (by rw [evF_length]; exact hfo)⟩
      rw [hv0] at cfo
      have CFO := Lib.hid cfo
      have FFO := Lib.hid ffo
      have s2 := (HLS3.out.cell 2).trans (show _ = some (Value.func (.func nst) #[] #[]) from rfl)
      have sl := HLS3.out.lt
      clear hpc hpn cfo ffo hv0 hn y1
      have y1 : ((j : Int) == (ns.length : Int)) = false := by simp; omega
      go_wp2_with fail
      go_still_tail 9, (by kernel_rfl)
      clear s2 cn
      go_wp2_with fail
      refine (HSS.out w3.drew r (k * 5) n v0 hn64 CFO.out FFO.out).mono ?_
      rintro e w4 ⟨rfl, rfl⟩
      have hdr : Below w3.heap.size w3 w3.drew := below_drewN (Below.refl _ _) 1
      have he3 := owned_below HE3.out hdr
      have hset := owned_set (u := val n) he3 (k := k * 5 + fo) (by rw [rowsOf_length evF_length, f1]; omega)
      rw [rowsOf_set1 evF_length HCX.out hfo (HST.out x n)] at hset
      have HE4 := Lib.hid hset
      have hkp := Kept.put w3.drew r (k * 5 + fo) (val n)
      have hty : ∀ (t : TypeId) (cs : Array Value) (q : Nat), t ≠ 36 → Lies w3.drew q t cs → ¬ oneRow r q := fun t cs q hne hl2 (e : q = r) => by
       subst e
       exact own_ne he3 hl2 (fun h => hne h.symm) rfl
      have HR4 := Lib.hid (show RdAt (w3.drew.setCell ⟨r, k * 5 + fo, none⟩ (val n)) g s i' from ⟨(HR3.out.1.below hdr HR3.out.1.lt).kept hkp (hty _ _ _ (by decide) (HR3.out.1.below hdr HR3.out.1.lt)), HR3.out.2⟩)
      have HN4 := Lib.hid (owns_kept (owned_below HN3.out hdr) hkp (fun q cur9 _ hl2 => hty _ _ _ (by decide) hl2))
      have HLS4 := Lib.hid ((HLS3.out.below hdr HLS3.out.lt).kept hkp (hty _ _ _ (by decide) (HLS3.out.below hdr HLS3.out.lt)))
      have HK4 := Lib.hid ((HK3.out.trans (Kept.drew _ _) (fun _ _ h => h)).trans hkp (fun q hq (e : q = r) => by subst e; exact .inr rfl))
      clear he3 hset hkp hty hdr HE3 HR3 HN3 HLS3 HK3 sl
      go_wp2
      go_roundw
      case rel => exact ⟨k + 1, j + 1, cur.set k (st x n), by omega, by go_num, by go_num, HF, HE4, HR4, HN4, HLS4, HK4⟩
      case measure => simp [intOf]; omega
     ·obtain rfl : ns.length = j := by omega
      have HF := Lib.hid (fillR_none (k := k + 1) (by omega) (fillK_none hf.out HX.out HUB.out (List.getElem?_eq_none (Nat.le_refl _))))
      go_wp2_with fail
      go_ret
      exact ⟨HR3.out, HK3.out, .inr ⟨.inr HF.out, rfl⟩⟩
   ·obtain rfl : own.length = k := by omega
    have hfr := fillR_end hf.out
    by_cases hjn : j = ns.length
    ·subst hjn
     rw [if_pos rfl] at hfr
     have HFR := Lib.hid hfr
     clear hfr
     go_wp2_with fail
     go_ret
     exact ⟨hr.out, hkk.out, .inl ⟨rfl, cur, HFR.out, by simp, he.out⟩⟩
    ·rw [if_neg hjn] at hfr
     have HFR := Lib.hid hfr
     have y1 : ((j : Int) == (ns.length : Int)) = false := by simp; omega
     have y2 : (j == ns.length) = false := by simpa using hjn
     clear hfr
     go_wp2_with fail
     go_ret
     exact ⟨hr.out, hkk.out, .inr ⟨.inr HFR.out, by simp [hjn]⟩⟩
 ·have x1 : ((er : Int) != 0) = true := by simp; omega
  go_wp2_with fail
  go_ret
  exact ⟨HR1.out, HK1.out, .inr ⟨.inl her, rfl⟩⟩
theorem range_mid {w : World} {g o : Nat} {t : TypeId} {pre cs post : List Value} (h : Lies w g t (pre ++ (cs ++ post)).toArray) (ho : o = pre.length) : w.rangeAt g o cs := fun j v hv => by
 subst ho
 rw [h.cell, List.getElem?_toArray, List.getElem?_append_right (by omega), Nat.add_sub_cancel_left, List.getElem?_append_left (List.getElem?_eq_some_iff.1 hv).1]
 exact hv
theorem wr_trans {w a b : World} {B g : Nat} (h : Kept (wrRows w B g) w a) (k : Kept (wrRows a B g) a b) : Kept (wrRows w B g) w b :=
 h.trans k (fun i hi hw => by
  by_cases hx : wrRows w B g i
  ·exact hx
  ·refine ⟨hw.1, ?_⟩
   rcases hw.2 with h2 | ⟨cur, h2⟩
   ·exact .inl h2
   ·exact .inr ⟨cur, (h.at_ i hi hx).symm.trans h2⟩)
theorem wr_below {w a : World} {B g : Nat} (h : Below w.heap.size w a) : Kept (wrRows w B g) w a := (Kept.of_below h).mono (fun _ _ (hf : noRow _) => hf.elim)
theorem lies_wr21 {w w' : World} {B g k : Nat} {t : TypeId} {cs : Array Value} (h : Lies w k t cs) (hk : Kept (wrRows w B g) w w') (h1 : k ≠ g) (h2 : t ≠ 5) : Lies w' k t cs :=
 h.kept hk (fun hs => by
  rcases hs.2 with e | ⟨cur, hc⟩
  ·exact h1 e
  ·exact h2 (h.same hc).1)
def thrP (own : List Ev) : Nat → List UInt8
 | 0 => printR (selN allU kdF own)
 | 1 => printR (selN allU kdF own) ++ printR (selN ringB rgF own)
 | 2 => printR (selN allU kdF own) ++ printR (selN ringB rgF own) ++ encList (deltas 0 (selN ticketB tkF own))
 | _ => printR (selN allU kdF own) ++ printR (selN ringB rgF own) ++ encList (deltas 0 (selN ticketB tkF own)) ++ encList (deltas 0 (selN valueB vlF own))
theorem thrP_all (own : List Ev) : thrP own 3 = thrS own := by unfold thrP thrS; simp only [List.append_assoc]
theorem thrP_le (own : List Ev) (i : Nat) : (thrP own i).length ≤ 40 + 60 * own.length := by
 have h := thrS_le own
 unfold thrS at h
 simp only [List.length_append] at h
 unfold thrP
 split
 all_goals first | omega | (simp only [List.length_append]; omega)
theorem right_in {x : Ev} (h : rightE x = true) : 0 ≤ x.th ∧ x.th < 8 ∧ 1 ≤ x.kd ∧ x.kd ≤ 15 ∧ 0 ≤ x.rg ∧ x.rg < 8 := by
 unfold rightE kindB at h
 simp only [Bool.and_eq_true, decide_eq_true_eq] at h
 obtain ⟨⟨h1, h2⟩, h3, h4, h5, _⟩ := h
 split at h5
 ·have := of_decide_eq_true h5; omega
 ·have : x.rg = 0 := by simpa using h5
  omega
set_option maxHeartbeats 8000000 in
set_option maxRecDepth 100000 in
theorem printThread21 (own : List Ev) (A : Option Addr) (c B g : Nat) (b : List UInt8) (w : World) (HE : ∀ wx, Kept (wrRows w B g) w wx → EvsAt wx A c own) (hl : own.length ≤ 65536) (hok : ∀ x ∈ own, rightE x = true ∧ evOk x) (hW : WrAt w B g (textB b)) (hgw : g < w.heap.size) (hsz : b.length ≤ 500000000) :
  Calls Tryz.prog 20 #[.pointer (some ⟨g, 0, none⟩), .slice A own.length c] w fun e w' => e = .returned (.tuple #[]) ∧ WrAt w' B g (textB (b ++ thrS own)) ∧ Kept (wrRows w B g) w w' := by
 have hkl : ∀ n ∈ selN allU kdF own, n < M64 := selN_lt (fun x hx => by have := right_in (hok x hx).1; unfold kdF M64; omega)
 have hrl : ∀ n ∈ selN ringB rgF own, n < M64 := selN_lt (fun x hx => by have := right_in (hok x hx).1; unfold rgF M64; omega)
 have htl : ∀ n ∈ selN ticketB tkF own, n < M64 := selN_lt (fun x hx => by have := (hok x hx).2.2.2.2.1; unfold tkF M64; omega)
 have hvl : ∀ n ∈ selN valueB vlF own, n < M64 := selN_lt (fun x hx => by have := (hok x hx).2.2.2.2.2; unfold vlF M64; omega)
 have HKL := Lib.hid hkl
 have HRL := Lib.hid hrl
 have HTL := Lib.hid htl
 have HVL := Lib.hid hvl
 have HOK := Lib.hid hok
 have HEE := Lib.hid HE
 have HW := Lib.hid hW
 have n1 := selN_length allU kdF own
 have n2 := selN_length ringB rgF own
 have n3 := selN_length ticketB tkF own
 have n4 := selN_length valueB vlF own
 have q0 := thrP_le own 0
 have q1 := thrP_le own 1
 have q2 := thrP_le own 2
 have q3 := thrP_le own 3
 clear hkl hrl htl hvl hok HE hW
 obtain ⟨d, hu, hd⟩ := under_stream
 have HUD := Lib.hid hu
 clear hu
 go_enter Tryz.func20, Tryz.ntmps20
 go_wp2_with fail
 refine (kinds21 w).mono ?_
 rintro e w1 ⟨rfl, hb1⟩
 have hk1 : Kept (wrRows w B g) w w1 := wr_below hb1
 have HK1 := Lib.hid hk1
 have HW1 := Lib.hid (HW.out.kept (Kept.of_below hb1) (fun h => h) (fun _ _ _ h => h))
 have hz1 := hb1.size
 clear hb1 hk1
 go_wp2_with fail
 refine (printAll0 67 68 18 (fnV 69) (fnV 59) allU kdF (printR (selN allU kdF own)) own A c B g b w1 (HEE.out w1 HK1.out) (by omega) HW1.out (Nat.le_total _ _) (by
   show b.length + (printR (selN allU kdF own)).length ≤ 1000000000
   have : thrP own 0 = printR (selN allU kdF own) := rfl
   rw [this] at q0; omega) rfl rfl enterKU enterKG enterRP
  (fun wx _ k => kindsUses k wx) (fun wx x hx => by
   have := right_in (HOK.out x hx).1
   exact kindsGet x wx (by omega) (by omega)) (fun wx v hv => runsPrint v _ wx hv (by omega) HKL.out)).mono ?_
 rintro e w2 ⟨rfl, hw2, hk2⟩
 have HW2 := Lib.hid hw2
 have HK2 := Lib.hid (wr_trans HK1.out hk2)
 have hz2 := hk2.size
 clear hw2 hk2 HW1 HK1
 go_wp2_with fail
 refine (fields21 w2).mono ?_
 rintro e w3 ⟨rfl, ls3, lt3, lv3, hb3⟩
 have HW3 := Lib.hid (HW2.out.kept (Kept.of_below hb3) (fun h => h) (fun _ _ _ h => h))
 have HK3 := Lib.hid (wr_trans HK2.out (wr_below hb3))
 have hz3 := hb3.size
 have LS3 := Lib.hid ls3
 have LT3 := Lib.hid lt3
 have LV3 := Lib.hid lv3
 obtain ⟨gt, hgt⟩ : ∃ gt, gt = w2.heap.size := ⟨_, rfl⟩
 obtain ⟨gv, hgv⟩ : ∃ gv, gv = w2.heap.size + 1 := ⟨_, rfl⟩
 obtain ⟨gr, hgr⟩ : ∃ gr, gr = w2.heap.size + 2 := ⟨_, rfl⟩
 rw [← hgt] at LT3
 rw [← hgv] at LV3
 rw [← hgv, ← hgr, ← hgt] at LS3
 rw [← hgr]
 have hgg : g < gt ∧ g < gv ∧ g < gr := by omega
 clear ls3 lt3 lv3 hb3 HW2 HK2 hgt hgv hgr
 go_wp2_with fail
 go_loopw [12] (fun t wr => ∃ i : Nat, i ≤ 3 ∧ t = .int .i64 i ∧ Hid (WrAt wr B g (textB (b ++ thrP own i))) ∧ Hid (Kept (wrRows w3 B g) w3 wr)) (fun t _ => 3 - (intOf t).toNat)
 case atStart => exact ⟨0, by omega, rfl, HW3.out, Kept.refl _ _⟩
 case round =>
  obtain ⟨i, hi, rfl, hw, hk⟩ := hrel
  have LSr := Lib.hid (lies_wr21 LS3.out hk.out (by omega) (by decide))
  have LTr := Lib.hid (lies_wr21 LT3.out hk.out (by omega) (by decide))
  have LVr := Lib.hid (lies_wr21 LV3.out hk.out (by omega) (by decide))
  have HKr := Lib.hid (wr_trans HK3.out hk.out)
  have sl := LSr.out.lt
  by_cases hlt : i < 3
  ·rcases (show i = 0 ∨ i = 1 ∨ i = 2 by omega) with rfl | rfl | rfl
   ·-- stream 0
    have hrg := range_mid (o := 0) (cs := ringC) (pre := []) (post := tickC gt ++ valuC gv) (show Lies wr gr 74 ([] ++ (ringC ++ (tickC gt ++ valuC gv))).toArray from by first | exact LSr.out | (simpa using LSr.out)) rfl
    have l0 := Lies.made wr 74 zeroC
    have th := arr_there l0 (n := (ringC).toArray.size) rfl
    have hst := arr_store l0 (L := ringC) rfl
    have hb0 := (Kept.alloc noRow wr (.cells zeroC 74))
    have hone : (ringC).toArray.all (·.oneCell') = true := by simp [Value.oneCell']
    have hin : (Tryz.prog.info? 74).map (·.size) = some (ringC).toArray.size := infoStream
    have hin2 : (Tryz.prog.info? 74).map (·.size) = some (ringC).length := infoStream
    go_upto_region 4 with (first | refine wpList_load_mid rfl 74 _ rfl gr 0 rfl (ringC) d hrg HUD.out hd hin2 ?_ | refine wpList_store_mid rfl 74 _ _ rfl wr.heap.size 0 (ringC).toArray rfl rfl th hin hone ?_)
    have hk4 := ((Kept.alloc (oneRow wr.heap.size) wr (.cells zeroC 74)).trans (kept_cellsH (ringC) 0 _ (g := wr.heap.size)) (fun _ _ h => h)).mono (T := noRow) (fun k hk (e : k = wr.heap.size) => by omega)
    have hb4 := hk4.all
    have HW4 := Lib.hid (hw.out.kept hk4 (fun h => h) (fun _ _ _ h => h))
    have HK4 := Lib.hid (wr_trans HKr.out (wr_below hb4))
    have HKL := Lib.hid (wr_trans hk.out (wr_below hb4))
    have LT4 := Lib.hid (LTr.out.below hb4 LTr.out.lt)
    have LV4 := Lib.hid (LVr.out.below hb4 LVr.out.lt)
    have HST := Lib.hid hst
    clear hrg th hb0 hk4 hb4 hst l0 hone hin sl hw hk
    have e0 : zeroC = #[Value.nilFunc, Value.nilFunc, Value.nilFunc, Value.nilFunc, Value.nilFunc] := rfl
    obtain ⟨q, hq⟩ : ∃ q, q = wr.heap.size := ⟨_, rfl⟩
    rw [← hq] at HST HW4 HK4 HKL LT4 LV4 ⊢
    clear hq
    generalize (wr.alloc (.cells zeroC 74)).setCells q 0 (ringC) = w4 at *
    go_wp2_with (refine wpList_load_mid rfl 74 _ rfl q 0 rfl (ringC) d (arr_range HST.out) HUD.out hd hin2 ?_)
    have hle : (thrP own 1).length = (thrP own 0).length + (printR (selN ringB rgF own)).length := by
     show (thrP own 0 ++ printR (selN ringB rgF own)).length = _
     rw [List.length_append]
    have hcat : b ++ thrP own 0 ++ printR (selN ringB rgF own) = b ++ thrP own 1 := by rw [List.append_assoc]; rfl
    refine (printAll0 63 70 18 (fnV 71) (fnV 59) ringB rgF (printR (selN ringB rgF own)) own A c B g (b ++ thrP own 0) w4 (HEE.out w4 HK4.out) (by omega) HW4.out (Nat.le_total _ _) (by rw [List.length_append]; omega) rfl rfl enterRU enterRG enterRP (fun wx _ k => (rings_any k wx).mono (fun e w9 h => ⟨h.1, h.2 ▸ Below.refl _ _⟩)) (fun wx x hx => by have := right_in (HOK.out x hx).1; exact ringGet x wx (by omega) (by omega)) (fun wx v hv => runsPrint v _ wx hv (by omega) HRL.out)).mono ?_
    rintro e w5 ⟨rfl, hw5, hk5⟩
    rw [hcat] at hw5
    have HW5 := Lib.hid hw5
    have HK5 := Lib.hid (wr_trans HKL.out hk5)
    clear hw5 hk5 hle hcat HW4 HK4 HKL LT4 LV4 HST
    go_wp2
    go_roundw
    case rel => exact ⟨1, by omega, by go_num, HW5, HK5⟩
    case measure => simp [intOf]
   ·-- stream 1
    have hrg := range_mid (o := 5) (cs := tickC gt) (pre := ringC) (post := valuC gv) (show Lies wr gr 74 (ringC ++ (tickC gt ++ valuC gv)).toArray from by first | exact LSr.out | (simpa using LSr.out)) rfl
    have l0 := Lies.made wr 74 zeroC
    have th := arr_there l0 (n := (tickC gt).toArray.size) rfl
    have hst := arr_store l0 (L := tickC gt) rfl
    have hb0 := (Kept.alloc noRow wr (.cells zeroC 74))
    have hone : (tickC gt).toArray.all (·.oneCell') = true := by simp [Value.oneCell']
    have hin : (Tryz.prog.info? 74).map (·.size) = some (tickC gt).toArray.size := infoStream
    have hin2 : (Tryz.prog.info? 74).map (·.size) = some (tickC gt).length := infoStream
    go_upto_region 4 with (first | refine wpList_load_mid rfl 74 _ rfl gr 5 rfl (tickC gt) d hrg HUD.out hd hin2 ?_ | refine wpList_store_mid rfl 74 _ _ rfl wr.heap.size 0 (tickC gt).toArray rfl rfl th hin hone ?_)
    have hk4 := ((Kept.alloc (oneRow wr.heap.size) wr (.cells zeroC 74)).trans (kept_cellsH (tickC gt) 0 _ (g := wr.heap.size)) (fun _ _ h => h)).mono (T := noRow) (fun k hk (e : k = wr.heap.size) => by omega)
    have hb4 := hk4.all
    have HW4 := Lib.hid (hw.out.kept hk4 (fun h => h) (fun _ _ _ h => h))
    have HK4 := Lib.hid (wr_trans HKr.out (wr_below hb4))
    have HKL := Lib.hid (wr_trans hk.out (wr_below hb4))
    have LT4 := Lib.hid (LTr.out.below hb4 LTr.out.lt)
    have LV4 := Lib.hid (LVr.out.below hb4 LVr.out.lt)
    have HST := Lib.hid hst
    clear hrg th hb0 hk4 hb4 hst l0 hone hin sl hw hk
    have e0 : zeroC = #[Value.nilFunc, Value.nilFunc, Value.nilFunc, Value.nilFunc, Value.nilFunc] := rfl
    obtain ⟨q, hq⟩ : ∃ q, q = wr.heap.size := ⟨_, rfl⟩
    rw [← hq] at HST HW4 HK4 HKL LT4 LV4 ⊢
    clear hq
    generalize (wr.alloc (.cells zeroC 74)).setCells q 0 (tickC gt) = w4 at *
    go_wp2_with (refine wpList_load_mid rfl 74 _ rfl q 0 rfl (tickC gt) d (arr_range HST.out) HUD.out hd hin2 ?_)
    have hle : (thrP own 2).length = (thrP own 1).length + (encList (deltas 0 (selN ticketB tkF own))).length := by
     show (thrP own 1 ++ encList (deltas 0 (selN ticketB tkF own))).length = _
     rw [List.length_append]
    have hcat : b ++ thrP own 1 ++ encList (deltas 0 (selN ticketB tkF own)) = b ++ thrP own 2 := by rw [List.append_assoc]; rfl
    refine (printAll1 94 73 75 gt (fnV 74) (fnV 76) ticketB tkF (encList (deltas 0 (selN ticketB tkF own))) own A c B g (b ++ thrP own 1) w4 (HEE.out w4 HK4.out) (by omega) HW4.out (Nat.le_total _ _) (by rw [List.length_append]; omega) rfl rfl enterUF enterTG enterDP (fun wx hb k => by have h9 := usesIt k gt smpT wx (LT4.out.below hb LT4.out.lt); rw [show rightE ⟨smpT.th, k, smpT.rg, smpT.tk, smpT.vl⟩ = ticketB k from rightE_ticket k] at h9; exact h9) (fun wx x hx => ticketGet x wx) (fun wx v hv => deltaPrint v _ wx hv HTL.out (by omega))).mono ?_
    rintro e w5 ⟨rfl, hw5, hk5⟩
    rw [hcat] at hw5
    have HW5 := Lib.hid hw5
    have HK5 := Lib.hid (wr_trans HKL.out hk5)
    clear hw5 hk5 hle hcat HW4 HK4 HKL LT4 LV4 HST
    go_wp2
    go_roundw
    case rel => exact ⟨2, by omega, by go_num, HW5, HK5⟩
    case measure => simp [intOf]
   ·-- stream 2
    have hrg := range_mid (o := 10) (cs := valuC gv) (pre := ringC ++ tickC gt) (post := []) (show Lies wr gr 74 ((ringC ++ tickC gt) ++ (valuC gv ++ [])).toArray from by first | exact LSr.out | (simpa using LSr.out)) rfl
    have l0 := Lies.made wr 74 zeroC
    have th := arr_there l0 (n := (valuC gv).toArray.size) rfl
    have hst := arr_store l0 (L := valuC gv) rfl
    have hb0 := (Kept.alloc noRow wr (.cells zeroC 74))
    have hone : (valuC gv).toArray.all (·.oneCell') = true := by simp [Value.oneCell']
    have hin : (Tryz.prog.info? 74).map (·.size) = some (valuC gv).toArray.size := infoStream
    have hin2 : (Tryz.prog.info? 74).map (·.size) = some (valuC gv).length := infoStream
    go_upto_region 4 with (first | refine wpList_load_mid rfl 74 _ rfl gr 10 rfl (valuC gv) d hrg HUD.out hd hin2 ?_ | refine wpList_store_mid rfl 74 _ _ rfl wr.heap.size 0 (valuC gv).toArray rfl rfl th hin hone ?_)
    have hk4 := ((Kept.alloc (oneRow wr.heap.size) wr (.cells zeroC 74)).trans (kept_cellsH (valuC gv) 0 _ (g := wr.heap.size)) (fun _ _ h => h)).mono (T := noRow) (fun k hk (e : k = wr.heap.size) => by omega)
    have hb4 := hk4.all
    have HW4 := Lib.hid (hw.out.kept hk4 (fun h => h) (fun _ _ _ h => h))
    have HK4 := Lib.hid (wr_trans HKr.out (wr_below hb4))
    have HKL := Lib.hid (wr_trans hk.out (wr_below hb4))
    have LT4 := Lib.hid (LTr.out.below hb4 LTr.out.lt)
    have LV4 := Lib.hid (LVr.out.below hb4 LVr.out.lt)
    have HST := Lib.hid hst
    clear hrg th hb0 hk4 hb4 hst l0 hone hin sl hw hk
    have e0 : zeroC = #[Value.nilFunc, Value.nilFunc, Value.nilFunc, Value.nilFunc, Value.nilFunc] := rfl
    obtain ⟨q, hq⟩ : ∃ q, q = wr.heap.size := ⟨_, rfl⟩
    rw [← hq] at HST HW4 HK4 HKL LT4 LV4 ⊢
    clear hq
    generalize (wr.alloc (.cells zeroC 74)).setCells q 0 (valuC gv) = w4 at *
    go_wp2_with (refine wpList_load_mid rfl 74 _ rfl q 0 rfl (valuC gv) d (arr_range HST.out) HUD.out hd hin2 ?_)
    have hle : (thrP own 3).length = (thrP own 2).length + (encList (deltas 0 (selN valueB vlF own))).length := by
     show (thrP own 2 ++ encList (deltas 0 (selN valueB vlF own))).length = _
     rw [List.length_append]
    have hcat : b ++ thrP own 2 ++ encList (deltas 0 (selN valueB vlF own)) = b ++ thrP own 3 := by rw [List.append_assoc]; rfl
    refine (printAll1 94 77 75 gv (fnV 78) (fnV 76) valueB vlF (encList (deltas 0 (selN valueB vlF own))) own A c B g (b ++ thrP own 2) w4 (HEE.out w4 HK4.out) (by omega) HW4.out (Nat.le_total _ _) (by rw [List.length_append]; omega) rfl rfl enterUF enterVG enterDP (fun wx hb k => by have h9 := usesIt k gv smpV wx (LV4.out.below hb LV4.out.lt); rw [show rightE ⟨smpV.th, k, smpV.rg, smpV.tk, smpV.vl⟩ = valueB k from rightE_value k] at h9; exact h9) (fun wx x hx => valueGet x wx) (fun wx v hv => deltaPrint v _ wx hv HVL.out (by omega))).mono ?_
    rintro e w5 ⟨rfl, hw5, hk5⟩
    rw [hcat] at hw5
    have HW5 := Lib.hid hw5
    have HK5 := Lib.hid (wr_trans HKL.out hk5)
    clear hw5 hk5 hle hcat HW4 HK4 HKL LT4 LV4 HST
    go_wp2
    go_roundw
    case rel => exact ⟨3, by omega, by go_num, HW5, HK5⟩
    case measure => simp [intOf]
  ·obtain rfl : i = 3 := by omega
   go_wp2
   go_end0
   exact ⟨rfl, by rw [← thrP_all]; exact hw.out, HKr.out⟩
theorem infoEv21 : (Tryz.prog.info? 36).map (fun i => (i.zero, i.size, i.bytes)) = some (some (.agg #[.int .i64 0, .int .i64 0, .int .i64 0, .int .u64 0, .int .u64 0]), 5, 40) := by kernel_rfl
def strV (l : List Ev) : List UInt8 := if (chE l).2 = 0 then strS l else []
theorem ret_2s {s t : ByteArray} {a b : Int} {k : IntKind} (h : s = t) (h2 : a = b) : Ending.returned (.tuple #[.string s, .int k a]) = .returned (.tuple #[.string t, .int k b]) := by rw [h, h2]
theorem thr_next {l : List Ev} {k : Nat} {x : Ev} (h : l[k]? = some x) : cells64 ((l.map thF).take k) ++ [.int .u64 ((thF x : Nat) : Int)] = cells64 ((l.map thF).take (k + 1)) := by
 rw [List.take_add_one, List.getElem?_map, h]; simp [cells64]
set_option maxHeartbeats 8000000 in
set_option maxRecDepth 100000 in
theorem chunkStreams (l : List Ev) (A : Option Addr) (c : Nat) (w : World) (h : EvsAt w A c l) (hok : ∀ x ∈ l, evOk x) :
  Calls Tryz.prog 7 #[.slice A l.length c] w fun e w' => e = .returned (.tuple #[.string (textB (strV l)), .int .i64 ((chE l).2 : Nat)]) ∧ Below w.heap.size w w' := by
 obtain ⟨A', c', e', h1, h2, _⟩ := h.form
 simp only [Value.slice.injEq, true_and] at e'
 obtain ⟨rfl, rfl⟩ := e'
 unfold maxLen at h2
 have HH := Lib.hid h
 have HOK := Lib.hid hok
 have HSV : Hid (strV l = if (chE l).2 = 0 then strS l else []) := rfl
 have HC := Lib.hid (check15 l A c w h)
 have HZ := Lib.hid (fun h => chE_zero (l := l) h)
 obtain ⟨ce, hce⟩ : ∃ ce, ce = (chE l).2 := ⟨_, rfl⟩
 obtain ⟨ci, hci⟩ : ∃ ci, ci = (chE l).1 := ⟨_, rfl⟩
 rw [← hce, ← hci] at HC
 rw [← hce] at HSV HZ ⊢
 clear h hok hce hci
 go_enter Tryz.func7, Tryz.ntmps7
 go_wp2_with fail
 refine HC.out.mono ?_
 rintro e w1 ⟨rfl, hb1⟩
 have HB1 := Lib.hid hb1
 clear hb1 HC
 by_cases hc0 : ce = 0
 ·subst hc0
  obtain ⟨hl, hR⟩ := HZ.out rfl
  have hsv := HSV.out
  rw [if_pos rfl] at hsv
  have HSV2 := Lib.hid hsv
  have HR := Lib.hid hR
  clear hsv HSV HZ hR
  go_upto_region 5 with (fail)
  have hz1 := HB1.out.size
  have HW2 := Lib.hid (WrAt.fresh w1 w1.heap.size (Nat.le_refl _))
  have HB2 := Lib.hid (HB1.out.alloc hz1 (.cells #[.slice none 0 0] 45))
  have hz2 : (w1.alloc (.cells #[.slice none 0 0] 45)).heap.size = w1.heap.size + 1 := by simp
  obtain ⟨g, hg⟩ : ∃ g, g = w1.heap.size := ⟨_, rfl⟩
  rw [← hg] at HW2 hz2 hz1 ⊢
  clear hg HB1
  generalize w1.alloc (.cells #[.slice none 0 0] 45) = w2 at *
  obtain ⟨B2, hB2⟩ : ∃ B2, B2 = w2.heap.size := ⟨_, rfl⟩
  have hgB : g < B2 := by omega
  have HB2e := Lib.hid hB2
  have hB2w : w.heap.size ≤ B2 := by omega
  clear hz2 hB2
  go_wp2_with fail
  go_loopw [7, 24] (fun v t wr => ∃ i : Nat, i ≤ l.length ∧ t = .int .i64 i ∧ Hid (wr.ownsRow B2 34 1 v i (cells64 ((l.map thF).take i))) ∧ Hid (Below B2 w2 wr)) (fun _ t _ => l.length - (intOf t).toNat)
  case atStart => exact ⟨0, by omega, rfl, World.ownsRow_nil _ _ _ _, Below.refl _ _⟩
  case round =>
   obtain ⟨i, hi, rfl, ho, hb⟩ := hrel
   have hbz : B2 ≤ wr.heap.size := by rw [HB2e.out]; exact hb.out.size
   have HBr := Lib.hid (HB2.out.trans (hb.out.mono hB2w))
   by_cases hlt : i < l.length
   ·have hii : (i : Int) < (l.length : Int) := by omega
    obtain ⟨x, hx⟩ : ∃ x, l[i]? = some x := ⟨_, List.getElem?_eq_getElem hlt⟩
    obtain ⟨bA, off, rfl, hbA, hc⟩ := EvsAt.at_ (SeqS.later HH.out HBr.out) hx
    have c0 := hc 0 _ (by decide) rfl
    have c1 := hc 1 _ (by decide) rfl
    have c2 := hc 2 _ (by decide) rfl
    have c3 := hc 3 _ (by decide) rfl
    have c4 := hc 4 _ (by decide) rfl
    rw [Nat.add_zero] at c0
    have hrt := right_in (HR.out x (List.mem_of_getElem? hx))
    have HNX := Lib.hid (thr_next hx)
    have e1 : IntKind.u64.wrap x.th = ((thF x : Nat) : Int) := by rw [IntKind.wrap_u64]; unfold thF; omega
    obtain ⟨n, hn⟩ : ∃ n, n = thF x := ⟨_, rfl⟩
    rw [← hn] at e1 HNX
    clear hc hx hn hrt
    go_upto_region 9 with (fail)
    have LE := Lib.hid (Lies.made wr 36 (evC x))
    have HBa := Lib.hid (hb.out.alloc hbz (.cells (evC x) 36))
    have HOa := Lib.hid (owned_below ho.out ((Below.refl wr.heap.size wr).alloc (Nat.le_refl _) (.cells (evC x) 36)))
    obtain ⟨q, hq⟩ : ∃ q, q = wr.heap.size := ⟨_, rfl⟩
    rw [← hq] at LE ⊢
    clear c0 c1 c2 c3 c4 hq ho hb HBr
    generalize wr.alloc (.cells (evC x) 36) = w3 at *
    have d0 := (LE.out.cell 0).trans (show _ = some (Value.int .i64 x.th) from rfl)
    have el := LE.out.lt
    have hz3 : B2 ≤ w3.heap.size := by rw [HB2e.out]; exact HBa.out.size
    go_wp2_with (at_builtin; refine append_one w3 (.int .u64 (n : Int)) rfl (.tmp 28) (.tmp 32) 46 rfl B2 34 _ _ Tryz.underlying46 Tryz.infoU64 rfl rfl _ _ _ rfl HOa.out rfl (by unfold maxLen; omega) (by omega) hz3 ?_)
    intro v' w5 ho5 hb5 _
    rw [HNX.out] at ho5
    have HO5 := Lib.hid ho5
    have HB5 := Lib.hid (HBa.out.trans hb5)
    clear ho5 hb5 HOa HBa LE d0 el
    go_wp2
    go_roundw
    case rel => exact ⟨i + 1, by omega, by go_num, HO5, HB5⟩
    case measure => simp [intOf]; omega
   ·obtain rfl : l.length = i := by omega
    have ho2 := ho.out
    rw [List.take_of_length_le (by rw [List.length_map]; exact Nat.le_refl _)] at ho2
    obtain ⟨A6, c6, rfl⟩ := own_sl21 ho2
    have HSQ := Lib.hid (SeqAt.of_owns ho2)
    have HWr := Lib.hid (HW2.out.kept (Kept.of_below (by rw [← HB2e.out]; exact hb.out)) (fun h => h) (fun _ _ _ h => h))
    have hle0 := printR_le21 (l.map thF)
    rw [List.length_map] at hle0
    clear ho ho2
    go_wp2_with fail
    refine (runsPrint _ (l.map thF) wr HSQ.out (by rw [List.length_map]; omega) (fun n hn => by
     obtain ⟨x, hx, rfl⟩ := List.mem_map.1 hn
     have := right_in (HR.out x hx)
     unfold thF M64; omega)).mono ?_
    rintro e w3 ⟨rfl, hb3⟩
    have HW3 := Lib.hid (HWr.out.kept (Kept.of_below hb3) (fun h => h) (fun _ _ _ h => h))
    have HK3 := Lib.hid (wr_trans (wr_below (B := g) (g := g) (by rw [← HB2e.out]; exact hb.out)) (wr_below hb3))
    clear hb3 HWr hb HBr HSQ
    go_wp2_with fail
    refine (octetText g g ByteArray.empty (textB (printR (l.map thF))) w3 HW3.out (by rw [textB_size, show ByteArray.empty.size = 0 from rfl]; omega)).mono ?_
    rintro e w4 ⟨rfl, hw4, hk4⟩
    rw [show ByteArray.empty = textB [] from rfl, text_append, List.nil_append] at hw4
    have HW4 : Hid (WrAt w4 g g (textB (strK l 0))) := hw4
    have HK4 := Lib.hid (wr_trans HK3.out hk4)
    clear hw4 hk4 HW3 HK3
    go_wp2_with fail
    go_loopw [38] (fun t wr => ∃ k : Nat, k ≤ 8 ∧ t = .int .i64 k ∧ Hid (WrAt wr g g (textB (strK l k))) ∧ Hid (Kept (wrRows w2 g g) w2 wr)) (fun t _ => 8 - (intOf t).toNat)
    case atStart => exact ⟨0, by omega, rfl, HW4, HK4⟩
    case round =>
     clear HW4 HK4
     obtain ⟨k, hk, rfl, hw, hkk⟩ := hrel
     have HB4 := Lib.hid (HB2.out.trans (hkk.out.below (B := w.heap.size) (by rw [← HB2e.out]; exact hB2w) (fun r hr hs => by have := hs.1; omega)))
     have hzr : B2 ≤ wr.heap.size := by rw [HB2e.out]; exact hkk.out.size
     by_cases hk8 : k < 8
     ·have hki : (k : Int) < 8 := by omega
      go_wp2_with fail
      refine (of15 l (k : Int) A c wr (SeqS.later HH.out HB4.out) (by omega)).mono ?_
      rintro e w5 ⟨v5, rfl, ho5, hb5⟩
      generalize hwK : wr = wK at *
      clear hwK
      obtain ⟨O, hO⟩ : ∃ O, O = ofE l (k : Int) l.length := ⟨_, rfl⟩
      have hOi := (ownE_of l (k : Int) l.length (Nat.le_refl _)).2
      have hOl := ofE_le l (k : Int) l.length
      have hOm := ownE_ofl l (k : Int)
      rw [← hO] at ho5 hOi hOl hOm
      obtain ⟨E, hE⟩ : ∃ E, E = ownE l (k : Int) := ⟨_, rfl⟩
      have HOI := Lib.hid hOi
      have hEl : E.length = O.length := by rw [hE, ← hOm, List.length_map]
      have hEg : ∀ (j i : Nat) (x : Ev), O[j]? = some i → l[i]? = some x → E[j]? = some x := fun j i x h1 h2 => by
       rw [hE, ← hOm, List.getElem?_map, h1]
       show some (l.getD i default) = _
       rw [List.getD_eq_getElem?_getD, h2]; rfl
      have HEG := Lib.hid hEg
      have HEL := Lib.hid hEl
      have HE := Lib.hid hE
      have HO5 := Lib.hid ho5
      have HB5 := Lib.hid hb5
      obtain ⟨A5, c5, rfl⟩ := own_sl21 ho5
      obtain ⟨N, hN⟩ : ∃ N, N = O.length := ⟨_, rfl⟩
      rw [← hN] at hOl HO5 ⊢
      have HN := Lib.hid hN
      have HBw5 := Lib.hid (HB4.out.trans (hb5.mono HB4.out.size))
      have hz5 : wK.heap.size ≤ w5.heap.size := hb5.size
      have hw5z := HBw5.out.size
      obtain ⟨hq1, hq2⟩ : N ≤ c5 ∧ c5 ≤ 9223372036854775807 := by
       obtain ⟨A9, c9, e9, h91, h92, _⟩ := (SeqS.of_owns HO5.out).form
       simp only [Value.slice.injEq, true_and] at e9
       obtain ⟨rfl, rfl⟩ := e9
       unfold maxLen at h92
       omega
      clear ho5 hb5 hO hOi hOm hN HB4 hE hEl hEg
      go_wp2_with fail
      go_loopw [11, 45] (fun v t wx => ∃ j : Nat, j ≤ N ∧ t = .int .i64 j ∧ Hid (wx.ownsRow w5.heap.size 36 5 v j (rowsOf evF (E.take j))) ∧ Hid (Below w5.heap.size w5 wx)) (fun _ t _ => N - (intOf t).toNat)
      case atStart => exact ⟨0, by omega, rfl, World.ownsRow_nil _ _ _ _, Below.refl _ _⟩
      case round =>
       obtain ⟨j, hj, rfl, hv, hb⟩ := hrel
       have hbz := hb.out.size
       by_cases hjl : j < N
       ·have hji : (j : Int) < (N : Int) := by omega
        obtain ⟨i0, hi0⟩ : ∃ i0, O[j]? = some i0 := ⟨_, List.getElem?_eq_getElem (by rw [← HN.out]; exact hjl)⟩
        have hil := HOI.out i0 (List.mem_of_getElem? hi0)
        have hi0i : (i0 : Int) < (l.length : Int) := by omega
        obtain ⟨x, hx⟩ : ∃ x, l[i0]? = some x := ⟨_, List.getElem?_eq_getElem hil⟩
        have hEx := HEG.out j i0 x hi0 hx
        have hnx : rowsOf evF (E.take j) ++ [.int .i64 x.th, .int .i64 x.kd, .int .i64 x.rg, .int .u64 (x.tk : Int), .int .u64 (x.vl : Int)] = rowsOf evF (E.take (j + 1)) := by
         rw [List.take_add_one, hEx, Option.toList_some, rowsOf_append, rowsOf_one]; rfl
        have HNX := Lib.hid hnx
        obtain ⟨p5, cp5, hp5, _, hpl, _, _, hpc⟩ := ownsRow_open (owned_below HO5.out hb.out) (by omega)
        have hA5 : A5 = some ⟨p5, 0, none⟩ := by
         simp only [Value.slice.injEq] at hp5
         exact hp5.1
        subst hA5
        have c9 := hpc j (.int .i64 (i0 : Int)) (by unfold intsE; rw [List.getElem?_map, hi0]; rfl)
        obtain ⟨bA, off, rfl, hbA, hc⟩ := EvsAt.at_ (SeqS.later HH.out (HBw5.out.trans (hb.out.mono hw5z))) hx
        have c0 := hc 0 _ (by decide) rfl
        have c1 := hc 1 _ (by decide) rfl
        have c2 := hc 2 _ (by decide) rfl
        have c3 := hc 3 _ (by decide) rfl
        have c4 := hc 4 _ (by decide) rfl
        rw [Nat.add_zero] at c0
        clear hc hx hEx hi0 hpc hp5 hnx
        go_wp2_with (at_builtin; refine append_oneS _ (evC x) 5 rfl (.tmp 49) (.tmp 54) 22 rfl w5.heap.size 36 _ 40 Tryz.underlying22 infoEv21 rfl (by decide) rfl (by simp [Value.oneCell']) _ _ _ rfl hv.out rfl (by unfold maxLen; omega) (by omega) hbz ?_)
        intro v' w7 ho7 hb7 _
        rw [HNX.out] at ho7
        have HO7 := Lib.hid ho7
        have HB7 := Lib.hid (hb.out.trans hb7)
        clear ho7 hb7 hv hb c0 c1 c2 c3 c4 c9
        go_wp2
        go_roundw
        case rel => exact ⟨j + 1, by omega, by go_num, HO7, HB7⟩
        case measure => simp [intOf]; omega
       ·obtain rfl : N = j := by omega
        have hv2 := hv.out
        rw [List.take_of_length_le (by rw [HN.out, HEL.out]; exact Nat.le_refl _), HE.out] at hv2
        have hlen : (ownE l (k : Int)).length = N := by rw [← HE.out, HEL.out, HN.out]
        have HLEN := Lib.hid hlen
        obtain ⟨Ao, co, rfl⟩ := own_sl21 hv2
        have HV2 := Lib.hid hv2
        have hbx := hb.out
        have hkx := wr_trans hkk.out (wr_below (B := g) (g := g) ((show Below wK.heap.size wK w5 from HB5.out).trans (hbx.mono hz5)))
        have HKX := Lib.hid hkx
        have HWX := Lib.hid (hw.out.kept (Kept.of_below ((show Below wK.heap.size wK w5 from HB5.out).trans (hbx.mono hz5))) (fun h => h) (fun _ _ _ h => h))
        have hle : (strK l k).length ≤ 10 + 20 * l.length + 8 * (40 + 60 * l.length) := Nat.le_trans (strK_le l k) (Nat.add_le_add_left (Nat.mul_le_mul_right _ hk) _)
        have hlen0 := hlen
        clear hv hv2 hlen hb hbx hkx
        by_cases hN0 : N = 0
        ·have HS2 : Hid (strK l (k + 1) = strK l k) := by
          show strK l k ++ strT l k = _
          unfold strT
          rw [if_pos (by rw [HLEN.out, hN0]), List.append_nil]
         subst hN0
         go_wp2_with fail
         go_roundw
         case rel => exact ⟨k + 1, by omega, by go_num, by rw [HS2.out]; exact HWX, HKX⟩
         case measure => simp [intOf]; omega
        ·have HS2 : Hid (strK l (k + 1) = strK l k ++ thrS (ownE l (k : Int))) := by
          show strK l k ++ strT l k = _
          unfold strT
          rw [if_neg (by rw [HLEN.out]; exact hN0)]
         have x1 : decide ((0 : Int) < (N : Int)) = true := by simp; omega
         have x2 : decide (0 < N) = true := by simp; omega
         have hPT := fun wx b hw hg hsz HE => printThread21 (ownE l (k : Int)) Ao co g g b wx HE (by rw [hlen0]; omega) (fun x hx => ⟨ownE_ok HR.out x hx, ownE_ok HOK.out x hx⟩) hw hg hsz
         rw [hlen0] at hPT
         have HPT := Lib.hid hPT
         clear hPT
         go_wp2_with fail
         have hEV : ∀ wy, Kept (wrRows wr g g) wr wy → EvsAt wy Ao co (ownE l (k : Int)) := fun wy hky => by
          have h9 := SeqS.of_owns (owns_kept HV2.out hky (fun r cur _ hl2 hs => by
           rcases hs.2 with e | ⟨cur2, h9⟩
           ·obtain ⟨_, v8, h8, _⟩ := HWX.out
            subst e
            exact absurd (hl2.same h8).1 (by decide)
           ·exact absurd (hl2.same h9).1 (by decide)))
          show SeqS wy 5 (.slice Ao (ownE l (k : Int)).length co) (ownE l (k : Int)).length _
          rw [HLEN.out]; exact h9
         refine (HPT.out wr (strK l k) HWX.out (by have := HKX.out.size; rw [← HB2e.out] at this; omega) (by omega) hEV).mono ?_
         rintro e w8 ⟨rfl, hw8, hk8⟩
         rw [← HS2.out] at hw8
         have HW8 := Lib.hid hw8
         have HK8 := Lib.hid (wr_trans HKX.out hk8)
         clear hw8 hk8 HPT
         go_wp2
         go_roundw
         case rel => exact ⟨k + 1, by omega, by go_num, HW8, HK8⟩
         case measure => simp [intOf]; omega
     ·obtain rfl : k = 8 := by omega
      have hle := strK_le l 8
      go_wp2_with fail
      refine (octetString g g _ wr hw.out (by rw [textB_size]; unfold maxLen; omega)).mono ?_
      rintro e w9 ⟨rfl, rfl⟩
      have HB9 := Lib.hid HB4.out
      go_wp2_with fail
      go_ret2
      exact ⟨ret_2s (by rw [HSV2.out]; rfl) rfl, HB9.out⟩
 ·have x1 : ((ce : Int) != 0) = true := by simp; omega
  have hsv := HSV.out
  rw [if_neg hc0] at hsv
  go_wp2_with fail
  go_ret2
  exact ⟨ret_2s (by rw [hsv]; rfl) rfl, HB1.out⟩
theorem readR_lt : ∀ (n : Nat) (s : ByteArray) (p : Nat) (bef : List (Nat × Nat)) (room : Nat), (∀ q ∈ bef, q.1 < M64) → ∀ q ∈ (readR n s p bef room).1, q.1 < M64
 | 0, s, p, bef, room, h => h
 | n + 1, s, p, bef, room, h => by
  unfold readR
  split
  ·rename_i h0
   exact readR_lt n s _ _ _ (fun q hq => by
    rcases List.mem_append.1 hq with hq | hq
    ·exact h q hq
    ·rw [List.mem_singleton] at hq
     subst hq
     exact (nextR_ok h0).2.2.2.1)
  ·exact h
theorem redOf_lt (s : ByteArray) (p : Nat) (m : Int) : ∀ n ∈ redOf s p m, n < M64 := fun n hn => by
 unfold redOf at hn
 split at hn
 ·unfold spreads at hn
  obtain ⟨q, hq, hn⟩ := List.mem_flatMap.1 hn
  rw [(List.mem_replicate.1 hn).2]
  exact readR_lt _ _ _ _ _ (fun q hq => by cases hq) q hq
 ·cases hn
theorem dlList_lt (s : ByteArray) (p : Nat) (m : Int) : ∀ n ∈ dlList s p m, n < M64 := sums_lt _ _
def zeroE : Ev := ⟨0, 0, 0, 0, 0⟩
def stepR (er : Nat) (u : Int → Bool) (st : Ev → Nat → Ev) (own : List Ev) (ns : List Nat) (at_ : Nat) : Option (List Ev × Nat) := if er = 0 then (fillR u st own ns).map (fun c => (c, at_)) else none
def rdT (s : ByteArray) (i n : Nat) : Nat → Option (List Ev × Nat)
 | 0 => stepR (redE s i n) allU setKd (List.replicate n zeroE) (redOf s i n) (redAt s i n)
 | 1 => (rdT s i n 0).bind fun p => stepR (redE s p.2 n) ringB setRg p.1 (redOf s p.2 n) (redAt s p.2 n)
 | 2 => (rdT s i n 1).bind fun p => stepR (rdListErr s p.2 n) ticketB setTk p.1 (dlList s p.2 n) (rdListAt s p.2 n)
 | _ + 3 => (rdT s i n 2).bind fun p => stepR (rdListErr s p.2 n) valueB setVl p.1 (dlList s p.2 n) (rdListAt s p.2 n)
theorem fillR_length {u : Int → Bool} {st : Ev → Nat → Ev} {own cur : List Ev} {ns : List Nat} (h : fillR u st own ns = some cur) : cur.length = own.length := by
 unfold fillR at h
 rcases hf : fillK u st own ns own.length with _ | ⟨c, j⟩
 ·rw [hf] at h; cases h
 ·rw [hf] at h
  simp only at h
  split at h
  ·rw [← Option.some.inj h]; exact (fillK_ok _ _ _ hf).1
  ·cases h
theorem stepR_yes {er : Nat} {u : Int → Bool} {st : Ev → Nat → Ev} {own cur : List Ev} {ns : List Nat} {a : Nat} (h : er = 0) (hf : fillR u st own ns = some cur) : stepR er u st own ns a = some (cur, a) := by unfold stepR; rw [if_pos h, hf]; rfl
theorem stepR_no {er : Nat} {u : Int → Bool} {st : Ev → Nat → Ev} {own : List Ev} {ns : List Nat} {a : Nat} (h : er ≠ 0 ∨ fillR u st own ns = none) : stepR er u st own ns a = none := by
 unfold stepR
 split
 ·rename_i h0
  rcases h with h | h
  ·exact absurd h0 h
  ·rw [h]; rfl
 ·rfl
section
variable {s : ByteArray} {i n pos : Nat} {own cur : List Ev}
theorem rdT_next0 (h : rdT s i n 0 = some (own, pos)) (he : redE s pos n = 0) (hf : fillR ringB setRg own (redOf s pos n) = some cur) : rdT s i n 1 = some (cur, redAt s pos n) := by rw [rdT, h]; exact stepR_yes he hf
theorem rdT_next1 (h : rdT s i n 1 = some (own, pos)) (he : rdListErr s pos n = 0) (hf : fillR ticketB setTk own (dlList s pos n) = some cur) : rdT s i n 2 = some (cur, rdListAt s pos n) := by rw [rdT, h]; exact stepR_yes he hf
theorem rdT_next2 (h : rdT s i n 2 = some (own, pos)) (he : rdListErr s pos n = 0) (hf : fillR valueB setVl own (dlList s pos n) = some cur) : rdT s i n 3 = some (cur, rdListAt s pos n) := by rw [rdT, h]; exact stepR_yes he hf
theorem rdT_gone2 (h : rdT s i n 2 = none) : rdT s i n 3 = none := by rw [rdT, h]; rfl
theorem rdT_gone1 (h : rdT s i n 1 = none) : rdT s i n 3 = none := rdT_gone2 (by rw [rdT, h]; rfl)
theorem rdT_gone0 (h : rdT s i n 0 = none) : rdT s i n 3 = none := rdT_gone1 (by rw [rdT, h]; rfl)
theorem rdT_no0 (h : rdT s i n 0 = some (own, pos)) (hn : redE s pos n ≠ 0 ∨ fillR ringB setRg own (redOf s pos n) = none) : rdT s i n 3 = none := rdT_gone1 (by rw [rdT, h]; exact stepR_no hn)
theorem rdT_no1 (h : rdT s i n 1 = some (own, pos)) (hn : rdListErr s pos n ≠ 0 ∨ fillR ticketB setTk own (dlList s pos n) = none) : rdT s i n 3 = none := rdT_gone2 (by rw [rdT, h]; exact stepR_no hn)
theorem rdT_no2 (h : rdT s i n 2 = some (own, pos)) (hn : rdListErr s pos n ≠ 0 ∨ fillR valueB setVl own (dlList s pos n) = none) : rdT s i n 3 = none := by rw [rdT, h]; exact stepR_no hn
end
theorem enterKS (a : Array Value) (wx : World) : (callFunc 69 a).run Tryz.prog wx = .ok (.enter 69 a) wx := by kernel_rfl
theorem enterRS (a : Array Value) (wx : World) : (callFunc 71 a).run Tryz.prog wx = .ok (.enter 71 a) wx := by kernel_rfl
theorem enterTS (a : Array Value) (wx : World) : (callFunc 74 a).run Tryz.prog wx = .ok (.enter 74 a) wx := by kernel_rfl
theorem enterVS (a : Array Value) (wx : World) : (callFunc 78 a).run Tryz.prog wx = .ok (.enter 78 a) wx := by kernel_rfl
theorem enterRR (a : Array Value) (wx : World) : (callFunc 59 a).run Tryz.prog wx = .ok (.enter 59 a) wx := by kernel_rfl
theorem enterDR (a : Array Value) (wx : World) : (callFunc 76 a).run Tryz.prog wx = .ok (.enter 76 a) wx := by kernel_rfl
theorem rd_below {w w' : World} {g i : Nat} {s : ByteArray} (h : RdAt w g s i) (hb : Below w.heap.size w w') : RdAt w' g s i := ⟨h.1.below hb h.1.lt, h.2⟩
theorem lies_rd21 {w w' : World} {g B n c k : Nat} {t : TypeId} {cs : Array Value} (h : Lies w k t cs) (hk : Kept (rdRows (some ⟨B, 0, none⟩) n c g) w w') (h1 : k ≠ g) (h2 : k ≠ B) : Lies w' k t cs := h.kept hk (fun hs => by
 rcases hs with e | e
 ·exact h1 e
 ·exact h2 (Option.some.inj (show some B = some k from e)).symm)
def gBr (g B : Nat) : Nat → Prop := fun k => k = g ∨ B ≤ k
theorem rd_end {w w' : World} {g B : Nat} (h : Kept (gBr g B) w w') (hB : w.heap.size ≤ B) : Kept (oneRow g) w w' := h.mono (fun k hk hs => by
 rcases hs with e | e
 ·exact e
 ·omega)
def RtPost (s : ByteArray) (i n B : Nat) (v : Value) (b : Bool) (i' : Nat) (w' : World) : Prop :=
 (∃ own, rdT s i n 3 = some (own, i') ∧ b = true ∧ own.length = n ∧ w'.ownsRow B 36 5 v n (rowsOf evF own)) ∨ (rdT s i n 3 = none ∧ b = false)
set_option maxHeartbeats 8000000 in
set_option maxRecDepth 100000 in
theorem readThread21 (g i n : Nat) (s : ByteArray) (w : World) (hR : RdAt w g s i) (hs : s.size ≤ 1099511627776) (hn : n ≤ 65536) :
  Calls Tryz.prog 61 #[.pointer (some ⟨g, 0, none⟩), .int .i64 (n : Int)] w fun e w' => ∃ v b, ∃ i' : Nat, RdAt w' g s i' ∧ Kept (oneRow g) w w' ∧ ((e = .returned (.tuple #[v, .bool b]) ∧ RtPost s i n w.heap.size v b i' w')) := by
 have hmk := run_make_rowS (P := Tryz.prog) 22 36 (.agg #[.int .i64 0, .int .i64 0, .int .i64 0, .int .u64 0, .int .u64 0]) 5 40 Tryz.underlying22 infoEv21 .i64 .i64 n (by omega) (by omega) w
 have ho0 := owned_rows evF_length (by decide) w 36 zeroE #[.int .i64 0, .int .i64 0, .int .i64 0, .int .u64 0, .int .u64 0] rfl n (by unfold maxLen; omega)
 have hb0 := (Below.refl w.heap.size w).alloc (Nat.le_refl _) (.cells (madeCells #[.int .i64 0, .int .i64 0, .int .i64 0, .int .u64 0, .int .u64 0] (n * 5)) 36)
 have HO1 := Lib.hid ho0
 have HB1 := Lib.hid hb0
 have HR1 := Lib.hid (rd_below hR hb0)
 have hgz := hR.1.lt
 have hz1 : (w.alloc (.cells (madeCells #[.int .i64 0, .int .i64 0, .int .i64 0, .int .u64 0, .int .u64 0] (n * 5)) 36)).heap.size = w.heap.size + 1 := by simp
 obtain ⟨d, hu, hd⟩ := under_stream
 have HUD := Lib.hid hu
 clear ho0 hb0 hR hu
 go_enter Tryz.func61, Tryz.ntmps61
 go_wp2_with fail
 clear hmk
 obtain ⟨B, hB⟩ : ∃ B, B = w.heap.size := ⟨_, rfl⟩
 have hBz : w.heap.size ≤ B := by omega
 have hgB : g < B := by omega
 have HBE := Lib.hid hB
 rw [← hB] at HO1 hz1 ⊢
 clear hB
 generalize w.alloc (.cells (madeCells #[.int .i64 0, .int .i64 0, .int .i64 0, .int .u64 0, .int .u64 0] (n * 5)) 36) = w1 at *
 refine (kinds21 w1).mono ?_
 rintro e w2 ⟨rfl, hb2⟩
 have HO2 := Lib.hid (owned_below HO1.out hb2)
 have HR2 := Lib.hid (rd_below HR1.out hb2)
 have HK2 := Lib.hid (((Kept.of_below HB1.out).mono (T := gBr g B) (fun _ _ (hf : noRow _) => hf.elim)).trans (Kept.of_below hb2) (fun _ _ (hf : noRow _) => hf.elim))
 have hz2 : B + 1 ≤ w2.heap.size := by have := hb2.size; omega
 clear hb2 HO1 HR1 HB1 hz1
 go_wp2_with fail
 have hRA := readAll0 67 69 59 (fnV 68) (fnV 18) allU setKd 1 (fun m => .int .i64 (sm21 m)) (redOf s i n) (redE s i n) (redAt s i n) (List.replicate n zeroE) (some ⟨B, 0, none⟩) n B g i s w2 (by rw [List.length_replicate]; exact HO2.out) (by rw [List.length_replicate]; omega) HR2.out (by decide) rfl rfl (fun x n => rfl) (fun m hm => by have := redOf_lt s i n m hm; unfold M64 at this; exact this) enterKU enterKS enterRR
  (fun wx hx => by rw [List.length_replicate]; exact runsRead g s i (n : Int) wx hx hs (by omega) (by omega))
  (fun wx _ k => kindsUses k wx) (fun wx p o m v0 h1 h2 h3 => kindsSet p o m v0 wx h1 h2 h3)
 rw [List.length_replicate] at hRA
 refine hRA.mono ?_
 rintro e w3 ⟨hr3, hk3, hp3⟩
 have HR3 := Lib.hid hr3
 have HK3 := Lib.hid (HK2.out.trans hk3 (fun k hk h => by
  rcases h with h | h
  ·exact .inl h
  ·exact .inr (by have := Option.some.inj (show some B = some k from h); omega)))
 have hz3 := hk3.size
 clear hr3 hk3 HO2 HR2 HK2 hRA
 rcases hp3 with ⟨her, cur, hfr, rfl, ho3⟩ | ⟨hno, rfl⟩
 ·have HF3 : Hid (rdT s i n 0 = some (cur, redAt s i n)) := by show rdT s i n 0 = _; rw [rdT]; exact stepR_yes her hfr
  have hcl := fillR_length hfr
  rw [List.length_replicate] at hcl ho3
  have HO3 := Lib.hid ho3
  clear ho3 hfr her
  go_wp2_with fail
  refine (fields21 w3).mono ?_
  rintro e w4 ⟨rfl, ls4, lt4, lv4, hb4⟩
  have HO4 := Lib.hid (owned_below HO3.out hb4)
  have HR4 := Lib.hid (rd_below HR3.out hb4)
  have HK4 := Lib.hid (HK3.out.trans (Kept.of_below hb4) (fun _ _ (hf : noRow _) => hf.elim))
  have LS4 := Lib.hid ls4
  have LT4 := Lib.hid lt4
  have LV4 := Lib.hid lv4
  have hz4 := hb4.size
  obtain ⟨gt, hgt⟩ : ∃ gt, gt = w3.heap.size := ⟨_, rfl⟩
  obtain ⟨gv, hgv⟩ : ∃ gv, gv = w3.heap.size + 1 := ⟨_, rfl⟩
  obtain ⟨gr, hgr⟩ : ∃ gr, gr = w3.heap.size + 2 := ⟨_, rfl⟩
  rw [← hgt] at LT4
  rw [← hgv] at LV4
  rw [← hgv, ← hgr, ← hgt] at LS4
  rw [← hgr]
  have hgg : B < gt ∧ B < gv ∧ B < gr := by omega
  clear ls4 lt4 lv4 hb4 HO3 HR3 HK3 hgt hgv hgr
  go_wp2_with fail
  go_loopw [18] (fun t wr => ∃ (k : Nat) (own : List Ev) (pos : Nat), k ≤ 3 ∧ t = .int .i64 k ∧ Hid (rdT s i n k = some (own, pos)) ∧ own.length = n ∧ Hid (wr.ownsRow B 36 5 (.slice (some ⟨B, 0, none⟩) n n) n (rowsOf evF own)) ∧ Hid (RdAt wr g s pos) ∧
   Hid (Lies wr gr 74 (ringC ++ (tickC gt ++ valuC gv)).toArray) ∧ Hid (Lies wr gt 36 (evC smpT)) ∧ Hid (Lies wr gv 36 (evC smpV)) ∧ Hid (Kept (gBr g B) w wr)) (fun t _ => 3 - (intOf t).toNat)
  case atStart => exact ⟨0, cur, _, by omega, rfl, HF3, hcl, HO4.out, HR4.out, LS4.out, LT4.out, LV4.out, HK4.out⟩
  case round =>
   clear HF3 hcl HO4 HR4 LS4 LT4 LV4 HK4
   obtain ⟨k, own, pos, hk, rfl, hf, hol, ho, hr, hls, hlt2, hlv2, hkk⟩ := hrel
   have sl := hls.out.lt
   have hrz := hr.out.1.lt
   by_cases hlt : k < 3
   ·rcases (show k = 0 ∨ k = 1 ∨ k = 2 by omega) with rfl | rfl | rfl
    ·-- stream 0
     have hrg := range_mid (o := 0) (cs := ringC) (pre := []) (post := tickC gt ++ valuC gv) (show Lies wr gr 74 ([] ++ (ringC ++ (tickC gt ++ valuC gv))).toArray from by first | exact hls.out | (simpa using hls.out)) rfl
     have l0 := Lies.made wr 74 zeroC
     have th := arr_there l0 (n := (ringC).toArray.size) rfl
     have hst := arr_store l0 (L := ringC) rfl
     have hone : (ringC).toArray.all (·.oneCell') = true := by simp [Value.oneCell']
     have hin : (Tryz.prog.info? 74).map (·.size) = some (ringC).toArray.size := infoStream
     have hin2 : (Tryz.prog.info? 74).map (·.size) = some (ringC).length := infoStream
     go_upto_region 7 with (first | refine wpList_load_mid rfl 74 _ rfl gr 0 rfl (ringC) d hrg HUD.out hd hin2 ?_ | refine wpList_store_mid rfl 74 _ _ rfl wr.heap.size 0 (ringC).toArray rfl rfl th hin hone ?_)
     have hk4 := ((Kept.alloc (oneRow wr.heap.size) wr (.cells zeroC 74)).trans (kept_cellsH (ringC) 0 _ (g := wr.heap.size)) (fun _ _ h => h)).mono (T := noRow) (fun k hk (e : k = wr.heap.size) => by omega)
     have hb4 := hk4.all
     have HO4 := Lib.hid (owned_below ho.out hb4)
     have HR4 := Lib.hid (rd_below hr.out hb4)
     have HLS4 := Lib.hid (hls.out.below hb4 hls.out.lt)
     have HLT4 := Lib.hid (hlt2.out.below hb4 hlt2.out.lt)
     have HLV4 := Lib.hid (hlv2.out.below hb4 hlv2.out.lt)
     have HK4 := Lib.hid (hkk.out.trans (Kept.of_below hb4) (fun _ _ (hf : noRow _) => hf.elim))
     have HST := Lib.hid hst
     have hz4 := hb4.size
     clear hrg th hk4 hb4 hst l0 hone hin sl ho hr hls hlt2 hlv2 hkk
     have e0 : zeroC = #[Value.nilFunc, Value.nilFunc, Value.nilFunc, Value.nilFunc, Value.nilFunc] := rfl
     obtain ⟨q, hq⟩ : ∃ q, q = wr.heap.size := ⟨_, rfl⟩
     rw [← hq] at HST HO4 HR4 HLS4 HLT4 HLV4 HK4 hz4 ⊢
     clear hq
     generalize (wr.alloc (.cells zeroC 74)).setCells q 0 (ringC) = w4 at *
     go_wp2_with (refine wpList_load_mid rfl 74 _ rfl q 0 rfl (ringC) d (arr_range HST.out) HUD.out hd hin2 ?_)
     have hRA := readAll0 63 71 59 (fnV 70) (fnV 18) ringB setRg 2 (fun m => .int .i64 (sm21 m)) (redOf s pos n) (redE s pos n) (redAt s pos n) own (some ⟨B, 0, none⟩) n B g pos s w4 (by rw [hol]; exact HO4.out) (by omega) HR4.out (by decide) rfl rfl (fun x n => rfl) (fun m hm => by have := redOf_lt s pos n m hm; unfold M64 at this; exact this) enterRU enterRS enterRR
      (fun wx hx => by rw [hol]; exact runsRead g s pos (n : Int) wx hx hs (by omega) (by omega))
      (fun wx _ k => (rings_any k wx).mono (fun e w9 h => ⟨h.1, h.2 ▸ Below.refl _ _⟩)) (fun wx p o m v0 h1 h2 h3 => ringSet p o m v0 wx h1 h2 h3)
     rw [hol] at hRA
     refine hRA.mono ?_
     rintro e w5 ⟨hr5, hk5, hp5⟩
     have HR5 := Lib.hid hr5
     have HK5 := Lib.hid (HK4.out.trans hk5 (fun k hk h => by rcases h with h | h; exact .inl h; exact .inr (by have := Option.some.inj (show some B = some k from h); omega)))
     have HLS5 := Lib.hid (lies_rd21 HLS4.out hk5 (by omega) (by omega))
     have HLT5 := Lib.hid (lies_rd21 HLT4.out hk5 (by omega) (by omega))
     have HLV5 := Lib.hid (lies_rd21 HLV4.out hk5 (by omega) (by omega))
     clear hr5 hk5 HO4 HR4 HLS4 HLT4 HLV4 HK4 HST hRA
     rcases hp5 with ⟨her, cur, hfr, rfl, ho5⟩ | ⟨hno, rfl⟩
     ·have HF := Lib.hid (rdT_next0 hf.out her hfr)
      have hcl := fillR_length hfr
      rw [hol] at hcl ho5
      have HO5 := Lib.hid ho5
      clear ho5 hfr her
      go_wp2_with fail
      go_roundw
      case rel => exact ⟨1, cur, _, by omega, by go_num, HF, hcl, HO5, HR5, HLS5, HLT5, HLV5, HK5⟩
      case measure => simp [intOf]
     ·have HF := Lib.hid (rdT_no0 hf.out hno)
      go_wp2_with fail
      go_ret2
      exact ⟨.slice none 0 0, false, _, HR5.out, rd_end HK5.out hBz, rfl, .inr ⟨HF.out, rfl⟩⟩
    ·-- stream 1
     have hrg := range_mid (o := 5) (cs := tickC gt) (pre := ringC) (post := valuC gv) (show Lies wr gr 74 (ringC ++ (tickC gt ++ valuC gv)).toArray from by first | exact hls.out | (simpa using hls.out)) rfl
     have l0 := Lies.made wr 74 zeroC
     have th := arr_there l0 (n := (tickC gt).toArray.size) rfl
     have hst := arr_store l0 (L := tickC gt) rfl
     have hone : (tickC gt).toArray.all (·.oneCell') = true := by simp [Value.oneCell']
     have hin : (Tryz.prog.info? 74).map (·.size) = some (tickC gt).toArray.size := infoStream
     have hin2 : (Tryz.prog.info? 74).map (·.size) = some (tickC gt).length := infoStream
     go_upto_region 7 with (first | refine wpList_load_mid rfl 74 _ rfl gr 5 rfl (tickC gt) d hrg HUD.out hd hin2 ?_ | refine wpList_store_mid rfl 74 _ _ rfl wr.heap.size 0 (tickC gt).toArray rfl rfl th hin hone ?_)
     have hk4 := ((Kept.alloc (oneRow wr.heap.size) wr (.cells zeroC 74)).trans (kept_cellsH (tickC gt) 0 _ (g := wr.heap.size)) (fun _ _ h => h)).mono (T := noRow) (fun k hk (e : k = wr.heap.size) => by omega)
     have hb4 := hk4.all
     have HO4 := Lib.hid (owned_below ho.out hb4)
     have HR4 := Lib.hid (rd_below hr.out hb4)
     have HLS4 := Lib.hid (hls.out.below hb4 hls.out.lt)
     have HLT4 := Lib.hid (hlt2.out.below hb4 hlt2.out.lt)
     have HLV4 := Lib.hid (hlv2.out.below hb4 hlv2.out.lt)
     have HK4 := Lib.hid (hkk.out.trans (Kept.of_below hb4) (fun _ _ (hf : noRow _) => hf.elim))
     have HST := Lib.hid hst
     have hz4 := hb4.size
     clear hrg th hk4 hb4 hst l0 hone hin sl ho hr hls hlt2 hlv2 hkk
     have e0 : zeroC = #[Value.nilFunc, Value.nilFunc, Value.nilFunc, Value.nilFunc, Value.nilFunc] := rfl
     obtain ⟨q, hq⟩ : ∃ q, q = wr.heap.size := ⟨_, rfl⟩
     rw [← hq] at HST HO4 HR4 HLS4 HLT4 HLV4 HK4 hz4 ⊢
     clear hq
     generalize (wr.alloc (.cells zeroC 74)).setCells q 0 (tickC gt) = w4 at *
     go_wp2_with (refine wpList_load_mid rfl 74 _ rfl q 0 rfl (tickC gt) d (arr_range HST.out) HUD.out hd hin2 ?_)
     have hRA := readAll1 94 74 76 gt (fnV 73) (fnV 75) ticketB setTk 3 (fun m => .int .u64 (m : Int)) (dlList s pos n) (rdListErr s pos n) (rdListAt s pos n) own (some ⟨B, 0, none⟩) n B g pos s w4 (by rw [hol]; exact HO4.out) (by omega) HR4.out (by decide) rfl rfl (fun x n => rfl) (fun m hm => by have := dlList_lt s pos n m hm; unfold M64 at this; exact this) enterUF enterTS enterDR
      (fun wx hx => by rw [hol]; exact deltaRead g s pos (n : Int) wx hx hs (by omega))
      (fun wx hkx k => by have h9 := usesIt k gt smpT wx (lies_rd21 HLT4.out hkx (by omega) (by omega)); rw [show rightE ⟨smpT.th, k, smpT.rg, smpT.tk, smpT.vl⟩ = ticketB k from rightE_ticket k] at h9; exact h9) (fun wx p o m v0 h1 h2 h3 => ticketSet p o m v0 wx h1 h2 h3)
     rw [hol] at hRA
     refine hRA.mono ?_
     rintro e w5 ⟨hr5, hk5, hp5⟩
     have HR5 := Lib.hid hr5
     have HK5 := Lib.hid (HK4.out.trans hk5 (fun k hk h => by rcases h with h | h; exact .inl h; exact .inr (by have := Option.some.inj (show some B = some k from h); omega)))
     have HLS5 := Lib.hid (lies_rd21 HLS4.out hk5 (by omega) (by omega))
     have HLT5 := Lib.hid (lies_rd21 HLT4.out hk5 (by omega) (by omega))
     have HLV5 := Lib.hid (lies_rd21 HLV4.out hk5 (by omega) (by omega))
     clear hr5 hk5 HO4 HR4 HLS4 HLT4 HLV4 HK4 HST hRA
     rcases hp5 with ⟨her, cur, hfr, rfl, ho5⟩ | ⟨hno, rfl⟩
     ·have HF := Lib.hid (rdT_next1 hf.out her hfr)
      have hcl := fillR_length hfr
      rw [hol] at hcl ho5
      have HO5 := Lib.hid ho5
      clear ho5 hfr her
      go_wp2_with fail
      go_roundw
      case rel => exact ⟨2, cur, _, by omega, by go_num, HF, hcl, HO5, HR5, HLS5, HLT5, HLV5, HK5⟩
      case measure => simp [intOf]
     ·have HF := Lib.hid (rdT_no1 hf.out hno)
      go_wp2_with fail
      go_ret2
      exact ⟨.slice none 0 0, false, _, HR5.out, rd_end HK5.out hBz, rfl, .inr ⟨HF.out, rfl⟩⟩
    ·-- stream 2
     have hrg := range_mid (o := 10) (cs := valuC gv) (pre := ringC ++ tickC gt) (post := []) (show Lies wr gr 74 ((ringC ++ tickC gt) ++ (valuC gv ++ [])).toArray from by first | exact hls.out | (simpa using hls.out)) rfl
     have l0 := Lies.made wr 74 zeroC
     have th := arr_there l0 (n := (valuC gv).toArray.size) rfl
     have hst := arr_store l0 (L := valuC gv) rfl
     have hone : (valuC gv).toArray.all (·.oneCell') = true := by simp [Value.oneCell']
     have hin : (Tryz.prog.info? 74).map (·.size) = some (valuC gv).toArray.size := infoStream
     have hin2 : (Tryz.prog.info? 74).map (·.size) = some (valuC gv).length := infoStream
     go_upto_region 7 with (first | refine wpList_load_mid rfl 74 _ rfl gr 10 rfl (valuC gv) d hrg HUD.out hd hin2 ?_ | refine wpList_store_mid rfl 74 _ _ rfl wr.heap.size 0 (valuC gv).toArray rfl rfl th hin hone ?_)
     have hk4 := ((Kept.alloc (oneRow wr.heap.size) wr (.cells zeroC 74)).trans (kept_cellsH (valuC gv) 0 _ (g := wr.heap.size)) (fun _ _ h => h)).mono (T := noRow) (fun k hk (e : k = wr.heap.size) => by omega)
     have hb4 := hk4.all
     have HO4 := Lib.hid (owned_below ho.out hb4)
     have HR4 := Lib.hid (rd_below hr.out hb4)
     have HLS4 := Lib.hid (hls.out.below hb4 hls.out.lt)
     have HLT4 := Lib.hid (hlt2.out.below hb4 hlt2.out.lt)
     have HLV4 := Lib.hid (hlv2.out.below hb4 hlv2.out.lt)
     have HK4 := Lib.hid (hkk.out.trans (Kept.of_below hb4) (fun _ _ (hf : noRow _) => hf.elim))
     have HST := Lib.hid hst
     have hz4 := hb4.size
     clear hrg th hk4 hb4 hst l0 hone hin sl ho hr hls hlt2 hlv2 hkk
     have e0 : zeroC = #[Value.nilFunc, Value.nilFunc, Value.nilFunc, Value.nilFunc, Value.nilFunc] := rfl
     obtain ⟨q, hq⟩ : ∃ q, q = wr.heap.size := ⟨_, rfl⟩
     rw [← hq] at HST HO4 HR4 HLS4 HLT4 HLV4 HK4 hz4 ⊢
     clear hq
     generalize (wr.alloc (.cells zeroC 74)).setCells q 0 (valuC gv) = w4 at *
     go_wp2_with (refine wpList_load_mid rfl 74 _ rfl q 0 rfl (valuC gv) d (arr_range HST.out) HUD.out hd hin2 ?_)
     have hRA := readAll1 94 78 76 gv (fnV 77) (fnV 75) valueB setVl 4 (fun m => .int .u64 (m : Int)) (dlList s pos n) (rdListErr s pos n) (rdListAt s pos n) own (some ⟨B, 0, none⟩) n B g pos s w4 (by rw [hol]; exact HO4.out) (by omega) HR4.out (by decide) rfl rfl (fun x n => rfl) (fun m hm => by have := dlList_lt s pos n m hm; unfold M64 at this; exact this) enterUF enterVS enterDR
      (fun wx hx => by rw [hol]; exact deltaRead g s pos (n : Int) wx hx hs (by omega))
      (fun wx hkx k => by have h9 := usesIt k gv smpV wx (lies_rd21 HLV4.out hkx (by omega) (by omega)); rw [show rightE ⟨smpV.th, k, smpV.rg, smpV.tk, smpV.vl⟩ = valueB k from rightE_value k] at h9; exact h9) (fun wx p o m v0 h1 h2 h3 => valueSet p o m v0 wx h1 h2 h3)
     rw [hol] at hRA
     refine hRA.mono ?_
     rintro e w5 ⟨hr5, hk5, hp5⟩
     have HR5 := Lib.hid hr5
     have HK5 := Lib.hid (HK4.out.trans hk5 (fun k hk h => by rcases h with h | h; exact .inl h; exact .inr (by have := Option.some.inj (show some B = some k from h); omega)))
     have HLS5 := Lib.hid (lies_rd21 HLS4.out hk5 (by omega) (by omega))
     have HLT5 := Lib.hid (lies_rd21 HLT4.out hk5 (by omega) (by omega))
     have HLV5 := Lib.hid (lies_rd21 HLV4.out hk5 (by omega) (by omega))
     clear hr5 hk5 HO4 HR4 HLS4 HLT4 HLV4 HK4 HST hRA
     rcases hp5 with ⟨her, cur, hfr, rfl, ho5⟩ | ⟨hno, rfl⟩
     ·have HF := Lib.hid (rdT_next2 hf.out her hfr)
      have hcl := fillR_length hfr
      rw [hol] at hcl ho5
      have HO5 := Lib.hid ho5
      clear ho5 hfr her
      go_wp2_with fail
      go_roundw
      case rel => exact ⟨3, cur, _, by omega, by go_num, HF, hcl, HO5, HR5, HLS5, HLT5, HLV5, HK5⟩
      case measure => simp [intOf]
     ·have HF := Lib.hid (rdT_no2 hf.out hno)
      go_wp2_with fail
      go_ret2
      exact ⟨.slice none 0 0, false, _, HR5.out, rd_end HK5.out hBz, rfl, .inr ⟨HF.out, rfl⟩⟩
   ·obtain rfl : k = 3 := by omega
    go_wp2_with fail
    go_ret2
    exact ⟨.slice (some ⟨B, 0, none⟩) n n, true, pos, hr.out, rd_end hkk.out hBz, rfl, .inl ⟨own, hf.out, rfl, hol, by rw [← HBE.out]; exact ho.out⟩⟩
 ·have HF : Hid (rdT s i n 3 = none) := rdT_gone0 (by rw [rdT]; exact stepR_no hno)
  go_wp2_with fail
  go_ret2
  exact ⟨.slice none 0 0, false, _, HR3.out, rd_end HK3.out hBz, rfl, .inr ⟨HF.out, rfl⟩⟩
theorem readR_room : ∀ (n : Nat) (s : ByteArray) (p : Nat) (bef : List (Nat × Nat)) (room : Nat), (readR n s p bef room).2.1 = 0 → (spreads (readR n s p bef room).1).length ≤ (spreads bef).length + room
 | 0, s, p, bef, room, h => by show (spreads bef).length ≤ _; omega
 | n + 1, s, p, bef, room, h => by
  unfold readR at h ⊢
  by_cases h0 : (nextR s p bef room).2.1 = 0
  ·rw [if_pos h0] at h ⊢
   have := readR_room n s _ _ _ h
   have hq := nextR_ok h0
   have hl : (spreads (bef ++ [(nextR s p bef room).1])).length = (spreads bef).length + (nextR s p bef room).1.2 := by
    rw [spreads_append, List.length_append, show [(nextR s p bef room).1] = [((nextR s p bef room).1.1, (nextR s p bef room).1.2)] from rfl, spreads_one, List.length_replicate]
   omega
  ·rw [if_neg h0] at h; exact absurd h h0
theorem redOf_le {s : ByteArray} {p : Nat} {m : Int} (h : redE s p m = 0) : ((redOf s p m).length : Int) ≤ m := by
 have hm : ¬ m < 0 := fun e => by unfold redE at h; rw [if_pos e] at h; exact absurd h (by decide)
 have h1 : (rd (restOf s p)).2.1 = 0 := by
  by_cases e : (rd (restOf s p)).2.1 = 0
  ·exact e
  ·unfold redE at h; rw [if_neg hm, if_pos e] at h; exact absurd h e
 have h2 : (readR (rd (restOf s p)).1 s (p + (rd (restOf s p)).2.2) [] m.toNat).2.1 = 0 := by
  unfold redE at h; rwa [if_neg hm, if_neg (fun e => e h1)] at h
 have := readR_room _ _ _ _ _ h2
 unfold redOf
 rw [if_pos h]
 simp only [spreads, List.flatMap_nil, List.length_nil] at this ⊢
 omega
def thrE (t : Nat) : Ev := ⟨sm21 t, 0, 0, 0, 0⟩
def withT (x : Ev) (t : Nat) : Ev := ⟨(t : Int), x.kd, x.rg, x.tk, x.vl⟩
def putK (l : List Ev) (idx : List Nat) (own : List Ev) (t : Nat) : Nat → List Ev
 | 0 => l
 | k + 1 => (putK l idx own t k).set (idx.getD k 0) (withT (own.getD k default) t)
theorem putK_length (l : List Ev) (idx : List Nat) (own : List Ev) (t : Nat) : ∀ k, (putK l idx own t k).length = l.length
 | 0 => rfl
 | k + 1 => by rw [putK, List.length_set, putK_length l idx own t k]
def ownK (own : List Ev) (t : Nat) : Nat → List Ev
 | 0 => own
 | k + 1 => (ownK own t k).set k (withT (own.getD k default) t)
theorem ownK_length (own : List Ev) (t : Nat) : ∀ k, (ownK own t k).length = own.length
 | 0 => rfl
 | k + 1 => by rw [ownK, List.length_set, ownK_length own t k]
theorem ownK_get (own : List Ev) (t : Nat) : ∀ k m, k ≤ m → (ownK own t k)[m]? = own[m]?
 | 0, m, _ => rfl
 | k + 1, m, h => by rw [ownK, List.getElem?_set_ne (by omega), ownK_get own t k m (by omega)]
def evT (s : ByteArray) (i : Nat) (most : Int) : Nat → Option (List Ev × Nat)
 | 0 => if redE s i most = 0 then some ((redOf s i most).map thrE, redAt s i most) else none
 | t + 1 => (evT s i most t).bind fun p =>
  if (ofE p.1 (t : Int) p.1.length).length = 0 then some p else
  (rdT s p.2 (ofE p.1 (t : Int) p.1.length).length 3).map fun q => (putK p.1 (ofE p.1 (t : Int) p.1.length) q.1 t (ofE p.1 (t : Int) p.1.length).length, q.2)
section
variable {s : ByteArray} {i t pos pos' : Nat} {most : Int} {l own : List Ev}
theorem evT_skip (h : evT s i most t = some (l, pos)) (h0 : (ofE l (t : Int) l.length).length = 0) : evT s i most (t + 1) = some (l, pos) := by
 rw [evT, h, Option.bind_some, if_pos h0]
theorem evT_put (h : evT s i most t = some (l, pos)) (h0 : ¬ (ofE l (t : Int) l.length).length = 0) (hr : rdT s pos (ofE l (t : Int) l.length).length 3 = some (own, pos')) :
  evT s i most (t + 1) = some (putK l (ofE l (t : Int) l.length) own t (ofE l (t : Int) l.length).length, pos') := by
 rw [evT, h, Option.bind_some, if_neg h0, hr]; rfl
theorem evT_fail (h : evT s i most t = some (l, pos)) (h0 : ¬ (ofE l (t : Int) l.length).length = 0) (hr : rdT s pos (ofE l (t : Int) l.length).length 3 = none) : evT s i most (t + 1) = none := by
 rw [evT, h, Option.bind_some, if_neg h0, hr]; rfl
theorem evT_gone : ∀ (d t : Nat), evT s i most t = none → evT s i most (t + d) = none
 | 0, t, h => h
 | d + 1, t, h => by rw [show t + (d + 1) = (t + d) + 1 by omega, evT, evT_gone d t h]; rfl
theorem evT_gone8 (h : evT s i most t = none) (ht : t ≤ 8) : evT s i most 8 = none := by
 have := evT_gone (8 - t) t h
 rwa [show t + (8 - t) = 8 by omega] at this
end
def RePost (s : ByteArray) (i : Nat) (most : Int) (B : Nat) (v : Value) (b : Bool) (i' : Nat) (w' : World) : Prop :=
 (∃ l, evT s i most 8 = some (l, i') ∧ b = true ∧ w'.ownsRow B 36 5 v l.length (rowsOf evF l)) ∨ (evT s i most 8 = none ∧ b = false)
theorem thr_put {ths : List Nat} {k x n : Nat} (hn : k < n) (hx : ths[k]? = some x) (hl : ths.length = n) : ((ths.take k).map thrE ++ List.replicate (n - k) zeroE).set k (thrE x) = (ths.take (k + 1)).map thrE ++ List.replicate (n - (k + 1)) zeroE := by
 have hk : ((ths.take k).map thrE).length = k := by rw [List.length_map, List.length_take]; omega
 rw [List.set_append_right _ _ (by omega), hk, Nat.sub_self, show n - k = (n - (k + 1)) + 1 by omega, List.replicate_succ, List.set_cons_zero, List.take_add_one, hx]
 simp
theorem evT_few {s : ByteArray} {i : Nat} {most : Int} (hm : most ≤ 65536) : ∀ (t : Nat) (l : List Ev) (pos : Nat), evT s i most t = some (l, pos) → l.length ≤ 65536
 | 0, l, pos, h => by
  unfold evT at h
  split at h
  ·rename_i h0
   simp only [Option.some.injEq, Prod.mk.injEq] at h
   have := redOf_le h0
   rw [← h.1, List.length_map]; omega
  ·cases h
 | t + 1, l, pos, h => by
  rcases he : evT s i most t with _ | ⟨l0, p0⟩
  ·rw [evT, he] at h; cases h
  ·have ih := evT_few hm t l0 p0 he
   by_cases h0 : (ofE l0 (t : Int) l0.length).length = 0
   ·rw [evT_skip he h0] at h
    simp only [Option.some.injEq, Prod.mk.injEq] at h
    rw [← h.1]; exact ih
   ·rcases hr : rdT s p0 (ofE l0 (t : Int) l0.length).length 3 with _ | ⟨own, p1⟩
    ·rw [evT_fail he h0 hr] at h; cases h
    ·rw [evT_put he h0 hr] at h
     simp only [Option.some.injEq, Prod.mk.injEq] at h
     rw [← h.1, putK_length]; exact ih
end Go.Proofs.YtmadgdmiipgjoaaGreat
