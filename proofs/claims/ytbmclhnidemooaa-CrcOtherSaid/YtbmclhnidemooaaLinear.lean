import Derived.Test.YtbmclhnidemooaaLcg
import Derived.Test.YtbmclhnidemooaaBytes
namespace Go.Proofs.Ytbmclhnidemooaa
open Go.RowKit
set_option linter.unusedVariables false
theorem step_lin (a b c : Nat) (x y z : UInt8) : stepT entN (a ^^^ b ^^^ c) (x ^^^ y ^^^ z) = stepT entN a x ^^^ stepT entN b y ^^^ stepT entN c z := by
  rw [step_entry, step_entry, step_entry, step_entry, ← halves_xor, ← halves_xor, UInt8.toNat_xor, UInt8.toNat_xor]
  exact congrArg (halves 8) (by ac_rfl)
def mix : List UInt8 → List UInt8 → List UInt8 → List UInt8
  | x :: xs, y :: ys, z :: zs => (x ^^^ y ^^^ z) :: mix xs ys zs
  | _, _, _ => []
theorem run_lin : ∀ (p q r : List UInt8) (a b c : Nat), p.length = q.length → q.length = r.length → runT entN (a ^^^ b ^^^ c) (mix p q r) = runT entN a p ^^^ runT entN b q ^^^ runT entN c r
  | [], [], [], a, b, c, _, _ => rfl
  | x :: p, y :: q, z :: r, a, b, c, h1, h2 => by
    have ih := run_lin p q r (stepT entN a x) (stepT entN b y) (stepT entN c z) (by simpa using h1) (by simpa using h2)
    rw [← step_lin] at ih
    exact ih
theorem mix_length : ∀ (p q r : List UInt8), p.length = q.length → q.length = r.length → (mix p q r).length = p.length
  | [], [], [], _, _ => rfl
  | x :: p, y :: q, z :: r, h1, h2 => by
    simp [mix, mix_length p q r (by simpa using h1) (by simpa using h2)]
theorem mix_get : ∀ (p q r : List UInt8) (i : Nat) (x y z : UInt8), p[i]? = some x → q[i]? = some y → r[i]? = some z → (mix p q r)[i]? = some (x ^^^ y ^^^ z)
  | _ :: p, _ :: q, _ :: r, 0, x, y, z, h1, h2, h3 => by
    simp at h1 h2 h3; subst h1 h2 h3; rfl
  | _ :: p, _ :: q, _ :: r, i + 1, x, y, z, h1, h2, h3 => mix_get p q r i x y z (by simpa using h1) (by simpa using h2) (by simpa using h3)
theorem more_lin (p q r : List UInt8) (h1 : p.length = q.length) (h2 : q.length = r.length) :
    moreT entN 0 p ^^^ moreT entN 0 q ^^^ moreT entN 0 r ^^^ moreT entN 0 (mix p q r) = 0 := by
  unfold moreT
  have e : 4294967295 ^^^ 0 = (4294967295 ^^^ 0) ^^^ (4294967295 ^^^ 0) ^^^ (4294967295 ^^^ 0) := by decide
  have := run_lin p q r (4294967295 ^^^ 0) (4294967295 ^^^ 0) (4294967295 ^^^ 0) h1 h2
  rw [← e] at this
  rw [this]
  generalize runT entN (4294967295 ^^^ 0) p = A
  generalize runT entN (4294967295 ^^^ 0) q = B
  generalize runT entN (4294967295 ^^^ 0) r = C
  have k : ∀ x y : Nat, x ^^^ (x ^^^ y) = y := fun x y => by rw [← Nat.xor_assoc, Nat.xor_self, Nat.zero_xor]
  have : 4294967295 ^^^ A ^^^ (4294967295 ^^^ B) ^^^ (4294967295 ^^^ C) ^^^ (4294967295 ^^^ (A ^^^ B ^^^ C)) = (4294967295 ^^^ (4294967295 ^^^ (4294967295 ^^^ 4294967295))) ^^^ ((A ^^^ A) ^^^ ((B ^^^ B) ^^^ (C ^^^ C))) := by ac_rfl
  rw [this]
  simp
theorem mix_next (p q r : List UInt8) (k : Nat) (x y z : UInt8) (h1 : p[k]? = some x) (h2 : q[k]? = some y) (h3 : r[k]? = some z) (m : Nat) (hl : k ≤ (mix p q r).length) :
    (cellsB ((mix p q r).take k) ++ List.replicate (m + 1) (Value.int .u8 0)).set k (Value.int .u8 ((x ^^^ y ^^^ z).toNat : Int)) = cellsB ((mix p q r).take (k + 1)) ++ List.replicate m (Value.int .u8 0) := by
  rw [set_next _ _ _ _ _ (by rw [cellsB_length, List.length_take]; omega), List.take_add_one, mix_get p q r k x y z h1 h2 h3]
  simp [cellsB]
theorem keep_callP {P : Program} {n : Nat} {args : Array Value} {w w0 : World} {g B : Nat} {L : List Value} {R : World → Prop} {v : Value} (hR : ∀ a b, Below a.heap.size a b → R a → R b)
    (hc : Calls P n args w fun e w' => e = .returned v ∧ Below w.heap.size w w')
    (h : w.rangeAt g 0 L ∧ R w ∧ Below B w0 w ∧ B ≤ w.heap.size) :
    Calls P n args w fun e w' => e = .returned v ∧ (w'.rangeAt g 0 L ∧ R w' ∧ Below B w0 w' ∧ B ≤ w'.heap.size) :=
  hc.mono fun e w' q => ⟨q.1, range_later h.1 q.2, hR _ _ q.2 h.2.1, h.2.2.1.trans (q.2.mono h.2.2.2), Nat.le_trans h.2.2.2 q.2.size⟩
set_option maxRecDepth 100000 in
theorem linear_away (a b c : ByteArray) (w : World) (wa : a.size ≤ maxLen) (wb : b.size ≤ maxLen) (wc : c.size ≤ maxLen) (h : ¬ (a.size = b.size ∧ b.size = c.size ∧ a.size ≤ 1000)) :
    Calls Try.prog 7 #[.string a, .string b, .string c] w fun e w' => e = .returned (.bool true) ∧ Below w.heap.size w w' := by
  have hbel := Below.refl w.heap.size w
  by_cases h1 : a.size = b.size
  · have e1 : ((a.size : Int) != (b.size : Int)) = false := by simp [h1]
    by_cases h2 : b.size = c.size
    · have e2 : ((b.size : Int) != (c.size : Int)) = false := by simp [h2]
      have e3 : decide ((1000 : Int) < (a.size : Int)) = true := by simp; omega
      clear h h1 h2
      go_enter Try.func7, Try.ntmps7
      go_wp2_with (go_at_call 9; refine (awake_any _).mono ?_; rintro e w1 ⟨rfl, hb⟩; have hbel := then_ hbel hb; clear hb)
      go_ret
      exact ⟨rfl, hbel⟩
    · have e2 : ((b.size : Int) != (c.size : Int)) = true := by simp; omega
      clear h h1 h2
      go_enter Try.func7, Try.ntmps7
      go_wp2_with (go_at_call 9; refine (awake_any _).mono ?_; rintro e w1 ⟨rfl, hb⟩; have hbel := then_ hbel hb; clear hb)
      go_ret
      exact ⟨rfl, hbel⟩
  · have e1 : ((a.size : Int) != (b.size : Int)) = true := by simp; omega
    clear h h1
    go_enter Try.func7, Try.ntmps7
    go_wp2_with (go_at_call 9; refine (awake_any _).mono ?_; rintro e w1 ⟨rfl, hb⟩; have hbel := then_ hbel hb; clear hb)
    go_ret
    exact ⟨rfl, hbel⟩
set_option maxRecDepth 100000 in
set_option maxHeartbeats 1000000 in
theorem linear_walk (a b c : ByteArray) (w : World) (wa : a.size ≤ maxLen) (wb : b.size ≤ maxLen) (wc : c.size ≤ maxLen) :
    Calls Try.prog 7 #[.string a, .string b, .string c] w fun e w' => e = .returned (.bool true) ∧ Below w.heap.size w w' := by
  by_cases h : a.size = b.size ∧ b.size = c.size ∧ a.size ≤ 1000
  · obtain ⟨h1, h2, h3⟩ := h
    have hla : a.data.toList.length = a.size := by simp
    have hlb : b.data.toList.length = b.size := by simp
    have hlc : c.data.toList.length = c.size := by simp
    have hlin := more_lin a.data.toList b.data.toList c.data.toList (by omega) (by omega)
    have hml := mix_length a.data.toList b.data.toList c.data.toList (by omega) (by omega)
    have hnx : ∀ (k : Nat) (ha : k < a.size) (hb : k < b.size) (hc : k < c.size) (m : Nat), k ≤ (mix a.data.toList b.data.toList c.data.toList).length →
        (cellsB ((mix a.data.toList b.data.toList c.data.toList).take k) ++ List.replicate (m + 1) (Value.int .u8 0)).set k (Value.int .u8 ((a[k] ^^^ b[k] ^^^ c[k]).toNat : Int)) = cellsB ((mix a.data.toList b.data.toList c.data.toList).take (k + 1)) ++ List.replicate m (Value.int .u8 0) :=
      fun k ha hb hc m hl => mix_next a.data.toList b.data.toList c.data.toList k _ _ _ (byte_of a k ha) (byte_of b k hb) (byte_of c k hc) m hl
    have e1 : ((a.size : Int) != (b.size : Int)) = false := by simp [h1]
    have e2 : ((b.size : Int) != (c.size : Int)) = false := by simp [h2]
    have e3 : decide ((1000 : Int) < (a.size : Int)) = false := by simp; omega
    have hSa := fun w => crcSum entN a w isT_entN wa
    have hSb := fun w => crcSum entN b w isT_entN wb
    have hSc := fun w => crcSum entN c w isT_entN wc
    have hSm := fun w => crcSum entN (textB (mix a.data.toList b.data.toList c.data.toList)) w isT_entN (by rw [textB_size, hml, hla]; unfold maxLen; omega)
    rw [show (textB (mix a.data.toList b.data.toList c.data.toList)).data.toList = mix a.data.toList b.data.toList c.data.toList from rfl] at hSm
    have ml1 : moreT entN 0 a.data.toList < 4294967296 := moreT_lt isT_entN 0 _ (by decide)
    have ml2 : moreT entN 0 b.data.toList < 4294967296 := moreT_lt isT_entN 0 _ (by decide)
    have ml3 : moreT entN 0 c.data.toList < 4294967296 := moreT_lt isT_entN 0 _ (by decide)
    have ml4 : moreT entN 0 (mix a.data.toList b.data.toList c.data.toList) < 4294967296 := moreT_lt isT_entN 0 _ (by decide)
    generalize mix a.data.toList b.data.toList c.data.toList = M at *
    rw [hla] at hml
    have hx1 := xor_u32 _ _ ml1 ml2
    have hx2 := xor_u32 _ _ (xor_lt32 _ _ ml1 ml2) ml3
    have hx3 := xor_u32 _ _ (xor_lt32 _ _ (xor_lt32 _ _ ml1 ml2) ml3) ml4
    rw [hlin] at hx3
    generalize moreT entN 0 M = R4 at *
    generalize moreT entN 0 a.data.toList = R1 at *
    generalize moreT entN 0 b.data.toList = R2 at *
    generalize moreT entN 0 c.data.toList = R3 at *
    have hT := crcTable2
    have hlen := entN_len
    have hone := entN_one
    have hi1 : (Try.prog.info? 23).map (·.size) = some (cellsU entN).length := by rw [hlen]; exact info23
    have hi2 : (Try.prog.info? 23).map (·.size) = some (cellsU entN).toArray.size := by rw [List.size_toArray]; exact hi1
    generalize cellsU entN = L at *
    obtain ⟨zs, hzn, hz⟩ := zeroT
    have HV := Lib.hid (fun w => var_new w zs 23 L hzn hlen)
    have hmk := fun w => run_make_row' (P := Try.prog) 34 5 (.int .u8 0) 1 Try.underlying34 Try.infoU8 rfl .i64 .i64 a.size (by omega) (by omega) w
    have HT := Lib.hid hT
    have HSA := Lib.hid hSa
    have HSB := Lib.hid hSb
    have HSC := Lib.hid hSc
    have HSM := Lib.hid hSm
    have HI1 := Lib.hid hi1
    have HI2 := Lib.hid hi2
    have HALL := Lib.hid hone
    have HX1 := Lib.hid hx1
    have HX2 := Lib.hid hx2
    have HX3 := Lib.hid hx3
    have HNX := Lib.hid hnx
    have HML := Lib.hid hml
    have HMK := Lib.hid hmk
    have HAB : a.size ≤ b.size := by omega
    have HBC : b.size ≤ c.size := by omega
    clear hT hSa hSb hSc hSm hi1 hi2 hone hx1 hx2 hx3 hnx hml hla hlb hlc hlin ml1 ml2 ml3 ml4 hlen hzn h1 h2 wa wb wc hmk
    go_enter Try.func7, Try.ntmps7
    go_wp2_with fail
    refine (awake_any w).mono ?_
    rintro e wA ⟨rfl, kA⟩
    have hmk := HMK.out wA
    go_wp2_with fail
    have ho0 := owns_made wA 5 (.int .u8 0) rfl a.size (by unfold maxLen; omega)
    have hb0 : Below w.heap.size w (wA.alloc (.cells (madeCells #[Value.int .u8 0] a.size) 5)) := kA.alloc kA.size _
    have hsz := kA.size
    clear hmk
    generalize wA.alloc (.cells (madeCells #[Value.int .u8 0] a.size) 5) = wB at *
    generalize wA.heap.size = g0 at *
    have hrep0 : List.replicate a.size (Value.int .u8 0) = cellsB (M.take 0) ++ List.replicate (a.size - 0) (Value.int .u8 0) := by simp [cellsB]
    rw [hrep0] at ho0
    have ho0 := owns_mono ho0 hsz
    clear hrep0
    go_loopw [37] (fun c wr => ∃ k : Nat, k ≤ a.size ∧ c = .int .i64 k ∧ wr.ownsRow w.heap.size 5 1 (.slice (some ⟨g0, 0, none⟩) a.size a.size) a.size (cellsB (M.take k) ++ List.replicate (a.size - k) (Value.int .u8 0)) ∧ Below w.heap.size w wr)
      (fun c _ => a.size - (intOf c).toNat)
    case atStart => exact ⟨0, by omega, rfl, ho0, hb0⟩
    case round =>
      clear ho0 hb0 kA
      obtain ⟨k, hk, rfl, ho, hb⟩ := hrel
      by_cases hlt : k < a.size
      · have hki : (k : Int) < (a.size : Int) := by omega
        have hkb : k < b.size := by omega
        have hkc : k < c.size := by omega
        have hkbi : (k : Int) < (b.size : Int) := by omega
        have hkci : (k : Int) < (c.size : Int) := by omega
        have hnx := HNX.out k hlt hkb hkc (a.size - (k + 1)) (by rw [HML.out]; omega)
        rw [show a.size - (k + 1) + 1 = a.size - k by omega] at hnx
        have hx8 : bits .xor .u8 (bits .xor .u8 ((a[k]'hlt).toNat : Int) ((b[k]'hkb).toNat : Int)) ((c[k]'hkc).toNat : Int) = (((a[k]'hlt) ^^^ (b[k]'hkb) ^^^ (c[k]'hkc)).toNat : Int) := by
          rw [xor_u8 _ _ (UInt8.toNat_lt _) (UInt8.toNat_lt _), xor_u8 _ _ (Nat.xor_lt_two_pow (n := 8) (UInt8.toNat_lt _) (UInt8.toNat_lt _)) (UInt8.toNat_lt _), UInt8.toNat_xor, UInt8.toNat_xor]
        have hset := owns_set (u := .int .u8 (((a[k]'hlt) ^^^ (b[k]'hkb) ^^^ (c[k]'hkc)).toNat : Int)) ho hlt
        rw [hnx, ← hx8] at hset
        have hfree := owns_free ho hlt
        have hcell : wr.cell? ⟨g0, k, none⟩ = some (.int .u8 0) := owns_cell ho (by
          rw [List.getElem?_append_right (by rw [cellsB_length, List.length_take]; omega), cellsB_length, List.length_take, HML.out, Nat.min_eq_left hk, Nat.sub_self, show a.size - k = a.size - (k + 1) + 1 by omega, List.replicate_succ]; rfl)
        have hbn := hb.setCell (p := ⟨g0, k, none⟩) hsz (.int .u8 (bits .xor .u8 (bits .xor .u8 ((a[k]'hlt).toNat : Int) ((b[k]'hkb).toNat : Int)) ((c[k]'hkc).toNat : Int)))
        have HSET := Lib.hid hset
        have HBN := Lib.hid hbn
        clear hnx hx8 hset ho hb hbn
        go_wp2_with fail
        go_region
        go_wp2_with fail
        go_roundw
        case rel => exact ⟨k + 1, by omega, by go_num, HSET.out, HBN.out.drew⟩
        case measure => simp [intOf]; omega
      · obtain rfl : k = a.size := by omega
        rw [Nat.sub_self, List.replicate_zero, List.append_nil, List.take_of_length_le (by rw [HML.out]; exact Nat.le_refl _)] at ho
        have HO := Lib.hid ho
        clear ho HNX
        go_wp2_with fail
        refine (HT.out wr).mono ?_
        rintro e w1 ⟨rfl, k1⟩
        obtain ⟨v1, v2, v3⟩ := HV.out w1
        have V1 := Lib.hid v1
        have ho1 := owns_below (owns_below HO.out k1) v3
        have hg1 : w.heap.size ≤ w1.heap.size := Nat.le_trans hb.size k1.size
        have k1 := (hb.trans (k1.mono hb.size)).trans (v3.mono (Nat.le_trans hb.size k1.size))
        have hdr : ((w1.alloc (.cells zs 23)).setCells w1.heap.size 0 L).drew.rangeAt w1.heap.size 0 L := v2
        have hB := k1.size
        clear v1 v3 HV hb
        go_wp2_with (first | refine wpList_store_mid rfl 23 _ _ rfl w1.heap.size 0 L.toArray rfl rfl V1.out HI2.out HALL.out ?_)
        generalize w1.heap.size = g at *
        generalize (w1.alloc (.cells zs 23)).setCells g 0 L = wa at *
        have hK : ∀ x y : World, Below x.heap.size x y → x.ownsRow w.heap.size 5 1 (.slice (some ⟨g0, 0, none⟩) a.size a.size) a.size (cellsB M) → y.ownsRow w.heap.size 5 1 (.slice (some ⟨g0, 0, none⟩) a.size a.size) a.size (cellsB M) := fun x y h1 h2 => owns_below h2 h1
        have hKeep := Lib.hid hK
        have hcv : ∀ x : World, x.ownsRow w.heap.size 5 1 (.slice (some ⟨g0, 0, none⟩) a.size a.size) a.size (cellsB M) → (convert 34 9 (.slice (some ⟨g0, 0, none⟩) a.size a.size)).run Try.prog x = .ok (.string (textB M)) x := fun x h => convert_owned x _ _ M a.size HML.out.symm h
        have HCV := Lib.hid hcv
        have hod : wa.drew.ownsRow w.heap.size 5 1 (.slice (some ⟨g0, 0, none⟩) a.size a.size) a.size (cellsB M) := ho1
        have hkd : Below w.heap.size w wa.drew := k1.drew
        have hsd : w.heap.size ≤ wa.drew.heap.size := hB
        clear hK hcv ho1 k1 hB V1 v2 hz HI2 HALL HO hg1 HMK HML HT
        try simp only [Act.put, List.setIfInBounds_toArray, List.set_cons_zero, List.set_cons_succ]
        refine wp_region_held_drew (S := fun w' => w'.rangeAt g 0 L ∧ w'.ownsRow w.heap.size 5 1 (.slice (some ⟨g0, 0, none⟩) a.size a.size) a.size (cellsB M) ∧ Below w.heap.size w w' ∧ w.heap.size ≤ w'.heap.size) (by kernel_rfl) ⟨hdr, hod, hkd, hsd⟩ (fun hHeld => ?_)
        refine wpAnyH_take (i := 0) rfl (by kernel_rfl) (by kernel_rfl) (by kernel_rfl) (fun _ _ _ h => h) (yieldsIf_load_mid (by rfl) _ _ rfl g 0 rfl L _ (fun w h => h.1) under23 rfl HI1.out) (by assumption) ?_
        try simp only [Act.put, List.setIfInBounds_toArray, List.set_cons_zero, List.set_cons_succ]
        refine wpAnyH_take (i := 3) rfl (by kernel_rfl) (by kernel_rfl) (by kernel_rfl) (fun _ _ _ h => h) (yieldsIf_load_mid (by rfl) _ _ rfl g 0 rfl L _ (fun w h => h.1) under23 rfl HI1.out) (by assumption) ?_
        try simp only [Act.put, List.setIfInBounds_toArray, List.set_cons_zero, List.set_cons_succ]
        refine wpAnyH_take (i := 7) rfl (by kernel_rfl) (by kernel_rfl) (by kernel_rfl) (fun _ _ _ h => h) (yieldsIf_load_mid (by rfl) _ _ rfl g 0 rfl L _ (fun w h => h.1) under23 rfl HI1.out) (by assumption) ?_
        try simp only [Act.put, List.setIfInBounds_toArray, List.set_cons_zero, List.set_cons_succ]
        refine wpAnyH_take (i := 11) rfl (by kernel_rfl) (by kernel_rfl) (by kernel_rfl) (fun _ _ _ h => h) (yieldsIf_load_mid (by rfl) _ _ rfl g 0 rfl L _ (fun w h => h.1) under23 rfl HI1.out) (by assumption) ?_
        try simp only [Act.put, List.setIfInBounds_toArray, List.set_cons_zero, List.set_cons_succ]
        refine wpAnyH_take (i := 1) (v := (.string a)) rfl (by kernel_rfl) (by kernel_rfl) (by kernel_rfl) (fun _ _ _ h => h) (Or.inl ⟨by rfl, fun w h => rfl⟩) (by assumption) ?_
        simp only [Act.put, List.getElem_toArray, List.getElem_cons_succ, List.getElem_cons_zero, List.setIfInBounds_toArray, List.set_cons_zero, List.set_cons_succ]
        refine wpAnyH_take (i := 4) (v := (.string b)) rfl (by kernel_rfl) (by kernel_rfl) (by kernel_rfl) (fun _ _ _ h => h) (Or.inl ⟨by rfl, fun w h => rfl⟩) (by assumption) ?_
        simp only [Act.put, List.getElem_toArray, List.getElem_cons_succ, List.getElem_cons_zero, List.setIfInBounds_toArray, List.set_cons_zero, List.set_cons_succ]
        refine wpAnyH_take (i := 8) (v := (.string c)) rfl (by kernel_rfl) (by kernel_rfl) (by kernel_rfl) (fun _ _ _ h => h) (Or.inl ⟨by rfl, fun w h => rfl⟩) (by assumption) ?_
        simp only [Act.put, List.getElem_toArray, List.getElem_cons_succ, List.getElem_cons_zero, List.setIfInBounds_toArray, List.set_cons_zero, List.set_cons_succ]
        refine wpAnyH_take (i := 12) (v := (.slice (some ⟨g0, 0, none⟩) a.size a.size)) rfl (by kernel_rfl) (by kernel_rfl) (by kernel_rfl) (fun _ _ _ h => h) (Or.inl ⟨by rfl, fun w h => rfl⟩) (by assumption) ?_
        simp only [Act.put, List.getElem_toArray, List.getElem_cons_succ, List.getElem_cons_zero, List.setIfInBounds_toArray, List.set_cons_zero, List.set_cons_succ]
        refine wpAnyH_take (i := 13) (v := (.string (textB M))) rfl (by kernel_rfl) (by kernel_rfl) (by kernel_rfl) (fun _ _ _ h => h) (Or.inl ⟨by rfl, fun w h => by (simp only [List.getElem_toArray, List.getElem_cons_succ, List.getElem_cons_zero]; have h1 := HCV.out w h.2.1; clear h; go_simp)⟩) (by assumption) ?_
        simp only [Act.put, List.getElem_toArray, List.getElem_cons_succ, List.getElem_cons_zero, List.setIfInBounds_toArray, List.set_cons_zero, List.set_cons_succ]
        refine wpAnyH_ready (rs := [2]) (by kernel_rfl) (by simp) ?_
        refine AllReadyH.cons rfl (fun K hK => ?_) AllReadyH.nil
        rw [if_pos (by rfl)]
        go_wp2_with fail
        refine (keep_callP hKeep.out (HSA.out _) (by assumption)).mono ?_
        rintro e w' ⟨he, q⟩
        cases he
        dsimp only
        refine hK.out _ _ q (fun hHeld => ?_)
        clear hK K
        try simp only [Act.put, List.setIfInBounds_toArray, List.set_cons_zero, List.set_cons_succ]
        refine wpAnyH_ready (rs := [5]) (by kernel_rfl) (by simp) ?_
        refine AllReadyH.cons rfl (fun K hK => ?_) AllReadyH.nil
        rw [if_pos (by rfl)]
        go_wp2_with fail
        refine (keep_callP hKeep.out (HSB.out _) (by assumption)).mono ?_
        rintro e w' ⟨he, q⟩
        cases he
        dsimp only
        refine hK.out _ _ q (fun hHeld => ?_)
        clear hK K
        try simp only [Act.put, List.setIfInBounds_toArray, List.set_cons_zero, List.set_cons_succ]
        refine wpAnyH_take (i := 6) (v := (.int .u32 ((R1 ^^^ R2 : Nat) : Int))) rfl (by kernel_rfl) (by kernel_rfl) (by kernel_rfl) (fun _ _ _ h => h) (Or.inl ⟨by rfl, fun w h => by (simp only [List.getElem_toArray, List.getElem_cons_succ, List.getElem_cons_zero]; clear h; go_simp; exact HX1.out)⟩) (by assumption) ?_
        simp only [Act.put, List.getElem_toArray, List.getElem_cons_succ, List.getElem_cons_zero, List.setIfInBounds_toArray, List.set_cons_zero, List.set_cons_succ]
        refine wpAnyH_ready (rs := [9]) (by kernel_rfl) (by simp) ?_
        refine AllReadyH.cons rfl (fun K hK => ?_) AllReadyH.nil
        rw [if_pos (by rfl)]
        go_wp2_with fail
        refine (keep_callP hKeep.out (HSC.out _) (by assumption)).mono ?_
        rintro e w' ⟨he, q⟩
        cases he
        dsimp only
        refine hK.out _ _ q (fun hHeld => ?_)
        clear hK K
        try simp only [Act.put, List.setIfInBounds_toArray, List.set_cons_zero, List.set_cons_succ]
        refine wpAnyH_take (i := 10) (v := (.int .u32 ((R1 ^^^ R2 ^^^ R3 : Nat) : Int))) rfl (by kernel_rfl) (by kernel_rfl) (by kernel_rfl) (fun _ _ _ h => h) (Or.inl ⟨by rfl, fun w h => by (simp only [List.getElem_toArray, List.getElem_cons_succ, List.getElem_cons_zero]; clear h; go_simp; exact HX2.out)⟩) (by assumption) ?_
        simp only [Act.put, List.getElem_toArray, List.getElem_cons_succ, List.getElem_cons_zero, List.setIfInBounds_toArray, List.set_cons_zero, List.set_cons_succ]
        refine wpAnyH_ready (rs := [14]) (by kernel_rfl) (by simp) ?_
        refine AllReadyH.cons rfl (fun K hK => ?_) AllReadyH.nil
        rw [if_pos (by rfl)]
        go_wp2_with fail
        refine (keep_callP hKeep.out (HSM.out _) (by assumption)).mono ?_
        rintro e w' ⟨he, q⟩
        cases he
        dsimp only
        refine hK.out _ _ q (fun hHeld => ?_)
        clear hK K
        try simp only [Act.put, List.setIfInBounds_toArray, List.set_cons_zero, List.set_cons_succ]
        refine wpAnyH_take (i := 15) (v := (.int .u32 ((0 : Nat) : Int))) rfl (by kernel_rfl) (by kernel_rfl) (by kernel_rfl) (fun _ _ _ h => h) (Or.inl ⟨by rfl, fun w h => by (simp only [List.getElem_toArray, List.getElem_cons_succ, List.getElem_cons_zero]; clear h; go_simp; exact HX3.out)⟩) (by assumption) ?_
        simp only [Act.put, List.getElem_toArray, List.getElem_cons_succ, List.getElem_cons_zero, List.setIfInBounds_toArray, List.set_cons_zero, List.set_cons_succ]
        refine wpAnyH_ready (rs := [16]) (by kernel_rfl) (by simp) ?_
        refine AllReadyH.cons rfl (fun K hK => ?_) AllReadyH.nil
        rw [if_pos (by rfl)]
        go_wp2_with fail
        refine hK.out _ _ (by assumption) (fun hHeld => ?_)
        clear hK K
        try simp only [Act.put, List.setIfInBounds_toArray, List.set_cons_zero, List.set_cons_succ]
        refine wpAnyH_ready (rs := [17]) (by kernel_rfl) (by simp) ?_
        refine AllReadyH.cons rfl (fun K hK => ?_) AllReadyH.nil
        rw [if_pos (by rfl)]
        go_wp2_with fail
        refine hK.out _ _ (by assumption) (fun hHeld => ?_)
        clear hK K
        try simp only [Act.put, List.setIfInBounds_toArray, List.set_cons_zero, List.set_cons_succ]
        refine wpAnyH_done (by kernel_rfl) ?_ _
        go_wp2
        go_ret
        exact ⟨rfl, And.left (And.right (And.right (by assumption)))⟩
  · exact linear_away a b c w wa wb wc h
end Go.Proofs.Ytbmclhnidemooaa
