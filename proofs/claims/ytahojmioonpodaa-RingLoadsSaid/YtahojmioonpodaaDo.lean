import Derived.Test.YtahojmioonpodaaAwake
import Derived.Test.YtahojmioonpodaaRgnil
namespace Go.Proofs.Ytahojmioonpodaa
open Go.RowKit
set_option linter.unusedVariables false
set_option linter.unusedSimpArgs false
set_option maxHeartbeats 1000000 in
theorem doNil (k j t v : Int) (w : World) : Calls Try.prog 21 #[.pointer none, .agg #[.int .i64 k, .int .i64 j, .int .u64 t, .int .u64 v]] w fun e w' => e = .returned (.tuple #[.int .u64 0, .int .i64 15]) ∧ Below w.heap.size w w' := by
  have hb := (Below.refl w.heap.size w).alloc (Nat.le_refl _) (.cells #[.int .i64 k, .int .i64 j, .int .u64 t, .int .u64 v] 51)
  have HB := Lib.hid hb
  clear hb
  go_enter Try.func21, Try.ntmps21
  go_wp2_with (first | (go_at_call 26; refine (rgNilClaim _).mono ?_; rintro e w' ⟨rfl, rfl⟩) | (go_at_call 24; refine (rgNilPublish _ _ _).mono ?_; rintro e w' ⟨rfl, rfl⟩) | (go_at_call 28; refine (rgNilTake _ _).mono ?_; rintro e w' ⟨rfl, rfl⟩) | (go_at_call 25; refine (rgNilRelease _ _ _).mono ?_; rintro e w' ⟨rfl, rfl⟩) | (go_at_call 27; refine (rgNilClose _).mono ?_; rintro e w' ⟨rfl, rfl⟩))
  all_goals
    go_ret2
    exact ⟨rfl, HB.out⟩
/-- A call of a script. -/
structure Op5 where
  k : Int
  j : Int
  t : Nat
  v : Nat
instance : Inhabited Op5 := ⟨⟨0, 0, 0, 0⟩⟩
def op5F (o : Op5) : List Value := [.int .i64 o.k, .int .i64 o.j, .int .u64 (o.t : Int), .int .u64 (o.v : Int)]
theorem op5F_length (o : Op5) : (op5F o).length = 4 := rfl
def op5Ok (o : Op5) : Prop := -9223372036854775808 ≤ o.k ∧ o.k ≤ 9223372036854775807 ∧ -9223372036854775808 ≤ o.j ∧ o.j ≤ 9223372036854775807 ∧ o.t ≤ 18446744073709551615 ∧ o.v ≤ 18446744073709551615
/-- Which call it is: 0 to 4. -/
def kk (k : Int) : Int := wrap64 ((IntKind.u64.wrap k).tmod 5)
def doK (o : Op5) : Nat := if kk o.k = 0 then 0 else if kk o.k = 1 then 1 else if kk o.k = 2 then 2 else if kk o.k = 3 then 3 else 4
def doV (R : Rg) (o : Op5) : Nat := match doK o with | 0 => claimV R | 1 => 0 | 2 => takeV R o.j | 3 => relV R o.j o.t | _ => 0
def doE (R : Rg) (o : Op5) : Nat := match doK o with | 0 => claimE R | 1 => pubE R o.t | 2 => takeE R o.j | 3 => relE R o.j o.t | _ => 0
def doR (R : Rg) (o : Op5) : Rg := match doK o with | 0 => claimR R | 1 => pubR R o.t o.v | 2 => takeR R o.j | 3 => relR R o.j o.t | _ => { R with cl := true }
theorem doK_cases (o : Op5) : (doK o = 0 ∧ kk o.k = 0) ∨ (doK o = 1 ∧ kk o.k ≠ 0 ∧ kk o.k = 1) ∨ (doK o = 2 ∧ kk o.k ≠ 0 ∧ kk o.k ≠ 1 ∧ kk o.k = 2) ∨ (doK o = 3 ∧ kk o.k ≠ 0 ∧ kk o.k ≠ 1 ∧ kk o.k ≠ 2 ∧ kk o.k = 3) ∨ (doK o = 4 ∧ kk o.k ≠ 0 ∧ kk o.k ≠ 1 ∧ kk o.k ≠ 2 ∧ kk o.k ≠ 3) := by
  unfold doK
  by_cases h0 : kk o.k = 0
  · simp [h0]
  · by_cases h1 : kk o.k = 1
    · simp [h1]
    · by_cases h2 : kk o.k = 2
      · simp [h2]
      · by_cases h3 : kk o.k = 3
        · simp [h3]
        · simp [h0, h1, h2, h3]
section
variable {w : World} {g o : Nat} {T : TypeId} {p0 post : List Value} {R : Rg}
set_option maxHeartbeats 1000000 in
set_option maxRecDepth 100000 in
theorem doAny (x : Op5) (h : RgAt w g T p0 post R) (ho : p0.length = o) (hx : op5Ok x) (ht : R.tail < 4611687117939015680) :
    Calls Try.prog 21 #[.pointer (some ⟨g, o, none⟩), .agg #[.int .i64 x.k, .int .i64 x.j, .int .u64 (x.t : Int), .int .u64 (x.v : Int)]] w fun e w' => e = .returned (.tuple #[.int .u64 (doV R x : Nat), .int .i64 (doE R x : Nat)]) ∧ RgAt w' g T p0 post (doR R x) ∧ Kept (oneRow g) w w' := by
  have hb := (Below.refl w.heap.size w).alloc (Nat.le_refl _) (.cells #[.int .i64 x.k, .int .i64 x.j, .int .u64 (x.t : Int), .int .u64 (x.v : Int)] 51)
  have hk := Kept.alloc (oneRow g) w (.cells #[.int .i64 x.k, .int .i64 x.j, .int .u64 (x.t : Int), .int .u64 (x.v : Int)] 51)
  have h1 := h.later hb
  obtain ⟨x1, x2, x3, x4, x5, x6⟩ := hx
  have HK := Lib.hid hk
  rcases doK_cases x with ⟨e, k0⟩ | ⟨e, k0, k1⟩ | ⟨e, k0, k1, k2⟩ | ⟨e, k0, k1, k2, k3⟩ | ⟨e, k0, k1, k2, k3⟩
  · have e0 : (wrap64 ((IntKind.u64.wrap x.k).tmod 5) == 0) = true := by rw [beq_iff_eq]; exact k0
    have HC := Lib.hid (rgClaim h1 ho ht)
    have HD : Hid (doV R x = claimV R ∧ doE R x = claimE R ∧ doR R x = claimR R) := by show _ ∧ _ ∧ _; unfold doV doE doR; rw [e]; exact ⟨rfl, rfl, rfl⟩
    clear e k0 h hb hk h1
    go_enter Try.func21, Try.ntmps21
    go_wp2_with fail
    refine HC.out.mono ?_
    rintro e w' ⟨rfl, hr, hkk⟩
    have hr2 := hr
    rw [← HD.out.2.2] at hr2
    have HR := Lib.hid hr2
    have HK2 := Lib.hid (HK.out.trans hkk (fun _ _ h => h))
    clear hr hr2 hkk HC HK
    go_wp2
    go_ret2
    exact ⟨by rw [HD.out.1, HD.out.2.1]; rfl, HR.out, HK2.out⟩
  · have e0 : (wrap64 ((IntKind.u64.wrap x.k).tmod 5) == 0) = false := by rw [beq_eq_false_iff_ne]; exact k0
    have e1 : (wrap64 ((IntKind.u64.wrap x.k).tmod 5) == 1) = true := by rw [beq_iff_eq]; exact k1
    have HC := Lib.hid (rgPublish x.t x.v h1 ho x5 x6)
    have HD : Hid (doV R x = 0 ∧ doE R x = pubE R x.t ∧ doR R x = pubR R x.t x.v) := by show _ ∧ _ ∧ _; unfold doV doE doR; rw [e]; exact ⟨rfl, rfl, rfl⟩
    clear e k0 k1 h hb hk h1
    go_enter Try.func21, Try.ntmps21
    go_wp2_with fail
    refine HC.out.mono ?_
    rintro e w' ⟨rfl, hr, hkk⟩
    have hr2 := hr
    rw [← HD.out.2.2] at hr2
    have HR := Lib.hid hr2
    have HK2 := Lib.hid (HK.out.trans hkk (fun _ _ h => h))
    clear hr hr2 hkk HC HK
    go_wp2
    go_ret2
    exact ⟨by rw [HD.out.1, HD.out.2.1]; rfl, HR.out, HK2.out⟩
  · have e0 : (wrap64 ((IntKind.u64.wrap x.k).tmod 5) == 0) = false := by rw [beq_eq_false_iff_ne]; exact k0
    have e1 : (wrap64 ((IntKind.u64.wrap x.k).tmod 5) == 1) = false := by rw [beq_eq_false_iff_ne]; exact k1
    have e2 : (wrap64 ((IntKind.u64.wrap x.k).tmod 5) == 2) = true := by rw [beq_iff_eq]; exact k2
    have HC := Lib.hid (rgTake x.j h1 ho)
    have HD : Hid (doV R x = takeV R x.j ∧ doE R x = takeE R x.j ∧ doR R x = takeR R x.j) := by show _ ∧ _ ∧ _; unfold doV doE doR; rw [e]; exact ⟨rfl, rfl, rfl⟩
    clear e k0 k1 k2 h hb hk h1
    go_enter Try.func21, Try.ntmps21
    go_wp2_with fail
    refine HC.out.mono ?_
    rintro e w' ⟨rfl, hr, hkk⟩
    have hr2 := hr
    rw [← HD.out.2.2] at hr2
    have HR := Lib.hid hr2
    have HK2 := Lib.hid (HK.out.trans hkk (fun _ _ h => h))
    clear hr hr2 hkk HC HK
    go_wp2
    go_ret2
    exact ⟨by rw [HD.out.1, HD.out.2.1]; rfl, HR.out, HK2.out⟩
  · have e0 : (wrap64 ((IntKind.u64.wrap x.k).tmod 5) == 0) = false := by rw [beq_eq_false_iff_ne]; exact k0
    have e1 : (wrap64 ((IntKind.u64.wrap x.k).tmod 5) == 1) = false := by rw [beq_eq_false_iff_ne]; exact k1
    have e2 : (wrap64 ((IntKind.u64.wrap x.k).tmod 5) == 2) = false := by rw [beq_eq_false_iff_ne]; exact k2
    have e3 : (wrap64 ((IntKind.u64.wrap x.k).tmod 5) == 3) = true := by rw [beq_iff_eq]; exact k3
    have HC := Lib.hid (rgRelease x.j x.t h1 ho x5)
    have HD : Hid (doV R x = relV R x.j x.t ∧ doE R x = relE R x.j x.t ∧ doR R x = relR R x.j x.t) := by show _ ∧ _ ∧ _; unfold doV doE doR; rw [e]; exact ⟨rfl, rfl, rfl⟩
    clear e k0 k1 k2 k3 h hb hk h1
    go_enter Try.func21, Try.ntmps21
    go_wp2_with fail
    refine HC.out.mono ?_
    rintro e w' ⟨rfl, hr, hkk⟩
    have hr2 := hr
    rw [← HD.out.2.2] at hr2
    have HR := Lib.hid hr2
    have HK2 := Lib.hid (HK.out.trans hkk (fun _ _ h => h))
    clear hr hr2 hkk HC HK
    go_wp2
    go_ret2
    exact ⟨by rw [HD.out.1, HD.out.2.1]; rfl, HR.out, HK2.out⟩
  · have e0 : (wrap64 ((IntKind.u64.wrap x.k).tmod 5) == 0) = false := by rw [beq_eq_false_iff_ne]; exact k0
    have e1 : (wrap64 ((IntKind.u64.wrap x.k).tmod 5) == 1) = false := by rw [beq_eq_false_iff_ne]; exact k1
    have e2 : (wrap64 ((IntKind.u64.wrap x.k).tmod 5) == 2) = false := by rw [beq_eq_false_iff_ne]; exact k2
    have e3 : (wrap64 ((IntKind.u64.wrap x.k).tmod 5) == 3) = false := by rw [beq_eq_false_iff_ne]; exact k3
    have HC := Lib.hid (rgClose h1 ho)
    have HD : Hid (doV R x = 0 ∧ doE R x = 0 ∧ doR R x = { R with cl := true }) := by show _ ∧ _ ∧ _; unfold doV doE doR; rw [e]; exact ⟨rfl, rfl, rfl⟩
    clear e k0 k1 k2 k3 h hb hk h1
    go_enter Try.func21, Try.ntmps21
    go_wp2_with fail
    refine HC.out.mono ?_
    rintro e w' ⟨rfl, hr, hkk⟩
    have hr2 := hr
    rw [← HD.out.2.2] at hr2
    have HR := Lib.hid hr2
    have HK2 := Lib.hid (HK.out.trans hkk (fun _ _ h => h))
    clear hr hr2 hkk HC HK
    go_wp2
    go_ret2
    exact ⟨by rw [HD.out.1, HD.out.2.1]; rfl, HR.out, HK2.out⟩
end
end Go.Proofs.Ytahojmioonpodaa
