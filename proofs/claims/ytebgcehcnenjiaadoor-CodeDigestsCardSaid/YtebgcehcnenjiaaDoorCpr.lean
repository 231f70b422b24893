/-
  A program's bytes (layer 9): code.Print.
-/
import Derived.Test.YtebgcehcnenjiaaDoorEnc
import Derived.Test.YtebgcehcnenjiaaDoorPut
import Derived.Test.YtebgcehcnenjiaaDoorWrmore
import Derived.Test.YtebgcehcnenjiaaDoorVarprint
namespace Go.Proofs.YtebgcehcnenjiaaDoor
open Go.RowKit
set_option linter.unusedVariables false
set_option linter.unusedSimpArgs false
def bI (z : Int) : UInt8 := UInt8.ofNat z.toNat
theorem bI_cast {z : Int} (h0 : 0 ≤ z) (h1 : z ≤ 255) : ((bI z).toNat : Int) = z := by
  unfold bI
  rw [UInt8.toNat_ofNat', Nat.mod_eq_of_lt (by omega)]; omega
def riE (r : Ri) : List UInt8 := [bI r.k, bI r.c, bI r.r]
def inE (x : In) : List UInt8 := [bI x.op, bI x.a, bI x.b, bI x.c, bI x.d] ++ enc x.k
def thE (l : List In) : List UInt8 := enc l.length ++ l.flatMap inE
def pgE (p : Pg) : List UInt8 := [bI p.rs.length] ++ p.rs.flatMap riE ++ [bI p.ts.length] ++ p.ts.flatMap thE
def prE (p : Pg) : ByteArray := if encB p = true then textB (pgE p) else ByteArray.empty
def prC (p : Pg) : Int := if encB p = true then 0 else 1
theorem right_bytes {x : In} (h : rightB x = true) : (0 ≤ x.op ∧ x.op ≤ 255) ∧ (0 ≤ x.a ∧ x.a ≤ 255) ∧ (0 ≤ x.b ∧ x.b ≤ 255) ∧ (0 ≤ x.c ∧ x.c ≤ 255) ∧ (0 ≤ x.d ∧ x.d ≤ 255) ∧ x.k ≤ 18446744073709551615 := by
  unfold rightB at h
  simp only [Bool.and_eq_true] at h
  obtain ⟨h0, h1, h2, h3, h4, h5⟩ := h
  have g : (gL x.op).1 ≤ 7 ∧ (gL x.op).2.1 ≤ 7 ∧ (gL x.op).2.2.1 ≤ 7 ∧ (gL x.op).2.2.2 ≤ 7 := by
    rcases op_lit h0 with e | e | e | e | e | e | e | e | e | e | e | e | e | e | e | e | e | e | e | e | e | e | e | e | e
    all_goals rw [e]; decide
  unfold wB at h1 h2 h3 h4
  simp only [Bool.and_eq_true, decide_eq_true_eq] at h1 h2 h3 h4
  have h0 := of_decide_eq_true h0
  have h5 := of_decide_eq_true h5
  have := gK_wf x.op
  omega
theorem flat_le {α : Type} {f : α → List UInt8} {m : Nat} : ∀ (l : List α), (∀ x ∈ l, (f x).length ≤ m) → (l.flatMap f).length ≤ m * l.length
  | [], _ => by simp
  | x :: l, h => by
    rw [List.flatMap_cons, List.length_append, List.length_cons, Nat.mul_add, Nat.mul_one]
    have := h x (by simp)
    have := flat_le l (fun y hy => h y (List.mem_cons_of_mem _ hy))
    omega
theorem flat_next {α : Type} (f : α → List UInt8) {l : List α} {i : Nat} {x : α} (h : l[i]? = some x) : (l.take (i + 1)).flatMap f = (l.take i).flatMap f ++ f x := by
  rw [List.take_add_one, h, Option.toList_some, List.flatMap_append]; simp
theorem octetPutLit (B g : Nat) (b x : List UInt8) (cs : Array Value) (m gb : Nat) (w : World) (hgb : w.heap.size = gb) (hm : x.length = m) (hcs : cs.toList = cellsB x) (h : WrAt w B g (textB b)) (hs : b.length + x.length ≤ 140737488355328) :
    Calls Tryd.prog 34 #[.pointer (some ⟨g, 0, none⟩), .slice (some ⟨gb, 0, none⟩) m m] (w.alloc (.cells cs 5)) fun e w' =>
    e = .returned (.tuple #[]) ∧ WrAt w' B g (textB (b ++ x)) ∧ Kept (wrRows w B g) w w' := by
  subst hm hgb
  refine (octetPutSome B g (textB b) (textB x) ⟨w.heap.size, 0, none⟩ x.length x.length _ (textB_size x) (h.kept (Kept.alloc noRow _ _) (fun h => h) (fun _ _ _ h => h)) ?_ (by rw [textB_size, textB_size]; exact hs)).mono ?_
  · intro j u hu
    rw [cellsB_text, ← hcs] at hu
    rw [addr_add, (Lies.made w _ _).cell j, ← hu]
    simp
  rintro e w' ⟨rfl, h1, h2⟩
  rw [text_append] at h1
  refine ⟨rfl, h1, Kept.trans (S := wrRows w B g) (Kept.alloc _ w _) h2 ?_⟩
  rintro i hi ⟨a1, a2⟩
  refine ⟨a1, ?_⟩
  rcases a2 with a2 | ⟨cur, a2⟩
  · exact .inl a2
  · exact .inr ⟨cur, (heap_alloc_old w _ hi).symm.trans a2⟩
/-- How memory stands in the course of a print. -/
structure PrS (W w : World) (box : Array Value) (g : Nat) (b : List UInt8) : Prop where
  lies : Lies w W.heap.size 35 box
  wr : WrAt w W.heap.size g (textB b)
  bel : Below W.heap.size W w
section
variable {W w w' : World} {box : Array Value} {g : Nat} {b b' : List UInt8}
theorem PrS.later (h : PrS W w box g b) (hb : Below w.heap.size w w') : PrS W w' box g b := ⟨h.lies.below hb h.lies.lt, h.wr.later hb, h.bel.trans (hb.mono h.bel.size)⟩
theorem PrS.put (h : PrS W w box g b) (hw : WrAt w' W.heap.size g (textB b')) (hk : Kept (wrRows w W.heap.size g) w w') : PrS W w' box g b' :=
  ⟨lies_wr h.lies h.wr hk (by decide) (by decide), hw, below_wr h.bel hk h.bel.size⟩
end
set_option maxHeartbeats 8000000 in
set_option maxRecDepth 100000 in
theorem cprint_any (p : Pg) (A : Option Addr) (c : Nat) (B : Option Addr) (d : Nat) (w : World) (h : PgAt w A c B d p) :
    Calls Tryd.prog 19 #[.agg (pgC A c B d p)] w fun e w' => e = .returned (.tuple #[.string (prE p), .int .i64 (prC p)]) ∧ Below w.heap.size w w' := by
  obtain ⟨hc1, hc2⟩ := seq_form h.1
  obtain ⟨hd1, hd2⟩ := h.2.form
  have hb0 : Below w.heap.size w (w.alloc (.cells (pgC A c B d p) 35)) := (Below.refl _ _).alloc (Nat.le_refl _) _
  have l0 := Lies.made w 35 (pgC A c B d p)
  have HC := Lib.hid (enc_any p A c B d _ (h.later hb0))
  have HH := Lib.hid h
  have HB0 := Lib.hid hb0
  have HL0 := Lib.hid l0
  clear h hb0 l0
  go_enter Tryd.func19, Tryd.ntmps19
  go_wp2_with fail
  generalize w.alloc (.cells (pgC A c B d p) 35) = w1 at *
  refine HC.out.mono ?_
  rintro e w2 ⟨rfl, hb2⟩
  have HL2 := Lib.hid (HL0.out.below hb2 HL0.out.lt)
  have HB2 := Lib.hid (HB0.out.trans (hb2.mono HB0.out.size))
  clear HC HB0 HL0 hb2
  obtain ⟨eb, heb⟩ : ∃ eb, encB p = eb := ⟨_, rfl⟩
  have HEB := Lib.hid heb
  rw [heb]
  clear heb
  cases eb
  case false =>
    go_wp2
    go_ret2
    exact ⟨by unfold prE prC; rw [HEB.out]; rfl, HB2.out⟩
  obtain ⟨hr8, ht8, hril, hthl⟩ := enc_parts.1 HEB.out
  have HRI := Lib.hid hril
  have HTH := Lib.hid hthl
  have HE : Hid (prE p = textB (pgE p) ∧ prC p = 0) := by
    show _ ∧ _
    unfold prE prC
    rw [HEB.out]; exact ⟨rfl, rfl⟩
  have HS : Hid (PrS w (w2.alloc (.cells #[.slice none 0 0] 64)) (pgC A c B d p) w2.heap.size []) := by
    have hbx : Below w2.heap.size w2 (w2.alloc (.cells #[.slice none 0 0] 64)) := (Below.refl _ _).alloc (Nat.le_refl _) _
    exact ⟨HL2.out.below hbx HL2.out.lt, WrAt.fresh w2 w.heap.size HB2.out.size, HB2.out.trans (hbx.mono HB2.out.size)⟩
  clear hril hthl HL2 HB2
  go_upto_region 4 with (fail)
  generalize w2.alloc (.cells #[.slice none 0 0] 64) = w3 at *
  generalize w2.heap.size = g at *
  have c0 := (HS.out.lies.cell 0).trans (show _ = some (Value.slice A p.rs.length c) from rfl)
  have cl := HS.out.lies.lt
  have n1 : IntKind.u8.wrap (p.rs.length : Int) = (p.rs.length : Int) := by rw [IntKind.wrap_u8]; omega
  go_wp2_with fail
  refine (octetPutLit w.heap.size g [] [bI p.rs.length] _ 1 _ w3 rfl rfl (by rw [show cellsB [bI p.rs.length] = [.int .u8 ((bI p.rs.length).toNat : Int)] from rfl, bI_cast (by omega) (by omega)]) HS.out.wr (by simp)).mono ?_
  rintro e w4 ⟨rfl, hw4, hk4⟩
  rw [List.nil_append] at hw4
  have HS2 : Hid (PrS w w4 (pgC A c B d p) g ([bI p.rs.length] ++ (p.rs.take 0).flatMap riE)) := by
    have := HS.out.put hw4 hk4
    show PrS _ _ _ _ _
    simpa using this
  clear HS hw4 hk4 c0 cl
  have c0 := (HS2.out.lies.cell 0).trans (show _ = some (Value.slice A p.rs.length c) from rfl)
  have cl := HS2.out.lies.lt
  go_wp2_with fail
  clear c0 cl
  go_loopw [23] (fun u wr => ∃ i : Nat, i ≤ p.rs.length ∧ u = .int .i64 i ∧ Hid (PrS w wr (pgC A c B d p) g ([bI p.rs.length] ++ (p.rs.take i).flatMap riE))) (fun u _ => p.rs.length - (intOf u).toNat)
  case atStart => exact ⟨0, by omega, rfl, HS2⟩
  case round =>
    clear HS2
    obtain ⟨i, hi, rfl, hS⟩ := hrel
    by_cases hlt : i < p.rs.length
    · have hii : (i : Int) < (p.rs.length : Int) := by omega
      obtain ⟨r, hr⟩ : ∃ r, p.rs[i]? = some r := ⟨_, List.getElem?_eq_getElem hlt⟩
      obtain ⟨b, off, rfl, hbl, hg⟩ := RisAt.at_ (HH.out.1.later hS.out.bel) hr
      have g0 := hg 0 _ (by decide) rfl
      have g1 := hg 1 _ (by decide) rfl
      have g2 := hg 2 _ (by decide) rfl
      rw [Nat.add_zero] at g0
      have hrr := HRI.out r (List.mem_of_getElem? hr)
      unfold rilB wB at hrr
      simp only [Bool.and_eq_true, decide_eq_true_eq] at hrr
      have n2 : IntKind.u8.wrap r.k = r.k := by rw [IntKind.wrap_u8]; omega
      have n3 : IntKind.u8.wrap r.c = r.c := by rw [IntKind.wrap_u8]; omega
      have n4 : IntKind.u8.wrap r.r = r.r := by rw [IntKind.wrap_u8]; omega
      have HCS : Hid ((#[.int .u8 r.k, .int .u8 r.c, .int .u8 r.r] : Array Value).toList = cellsB (riE r)) := by
        show _ = [Value.int .u8 ((bI r.k).toNat : Int), .int .u8 ((bI r.c).toNat : Int), .int .u8 ((bI r.r).toNat : Int)]
        rw [bI_cast (by omega) (by omega), bI_cast (by omega) (by omega), bI_cast (by omega) (by omega)]
      have hbx : Below wr.heap.size wr (wr.alloc (.cells #[.int .i64 r.k, .int .i64 r.c, .int .i64 r.r] 67)) := (Below.refl _ _).alloc (Nat.le_refl _) _
      have HSX := Lib.hid (hS.out.later hbx)
      have HNX : Hid ([bI (p.rs.length : Int)] ++ (p.rs.take i).flatMap riE ++ riE r = [bI p.rs.length] ++ (p.rs.take (i + 1)).flatMap riE) := by
        show _ = _
        rw [flat_next riE hr, List.append_assoc]
      have HLN : Hid (([bI (p.rs.length : Int)] ++ (p.rs.take i).flatMap riE).length ≤ 100) := by
        have := flat_le (f := riE) (m := 3) (p.rs.take i) (fun _ _ => Nat.le_refl _)
        rw [List.length_take] at this
        show _ ≤ _
        simp only [List.length_append, List.length_cons, List.length_nil]; omega
      clear hrr hg hr hbx hS
      go_wp2_with fail
      refine (octetPutLit w.heap.size g _ (riE r) _ 3 (wr.heap.size + 1) (wr.alloc (.cells #[.int .i64 r.k, .int .i64 r.c, .int .i64 r.r] 67)) (World.size_alloc _ _) rfl HCS.out HSX.out.wr (by have := HLN.out; simp only [riE, List.length_cons, List.length_nil]; omega)).mono ?_
      rintro e w5 ⟨rfl, hw5, hk5⟩
      rw [HNX.out] at hw5
      have HS5 := Lib.hid (HSX.out.put hw5 hk5)
      clear hw5 hk5 g0 g1 g2
      go_wp2
      go_roundw
      case rel => exact ⟨i + 1, by omega, by go_num, HS5⟩
      case measure => simp [intOf]; omega
    · obtain rfl : i = p.rs.length := by omega
      rw [List.take_length] at hS
      have HX0 : Hid (([bI (p.rs.length : Int)] ++ p.rs.flatMap riE).length ≤ 100) := by
        have := flat_le (f := riE) (m := 3) p.rs (fun _ _ => Nat.le_refl _)
        show _ ≤ _
        simp only [List.length_append, List.length_cons, List.length_nil]; omega
      have HPG : Hid (pgE p = ([bI (p.rs.length : Int)] ++ p.rs.flatMap riE) ++ [bI p.ts.length] ++ p.ts.flatMap thE) := rfl
      generalize [bI (p.rs.length : Int)] ++ p.rs.flatMap riE = X0 at *
      have c1 := (hS.out.lies.cell 1).trans (show _ = some (Value.slice B p.ts.length d) from rfl)
      have cl := hS.out.lies.lt
      have n1 : IntKind.u8.wrap (p.ts.length : Int) = (p.ts.length : Int) := by rw [IntKind.wrap_u8]; omega
      go_wp2_with fail
      refine (octetPutLit w.heap.size g X0 [bI p.ts.length] _ 1 _ wr rfl rfl (by rw [show cellsB [bI p.ts.length] = [.int .u8 ((bI p.ts.length).toNat : Int)] from rfl, bI_cast (by omega) (by omega)]) hS.out.wr (by have := HX0.out; simp only [List.length_cons, List.length_nil]; omega)).mono ?_
      rintro e w6 ⟨rfl, hw6, hk6⟩
      have HS6 : Hid (PrS w w6 (pgC A c B d p) g (X0 ++ [bI p.ts.length] ++ (p.ts.take 0).flatMap thE)) := by
        have := hS.out.put hw6 hk6
        show PrS _ _ _ _ _
        simpa using this
      clear hS hw6 hk6 c1 cl
      have c1 := (HS6.out.lies.cell 1).trans (show _ = some (Value.slice B p.ts.length d) from rfl)
      have cl := HS6.out.lies.lt
      go_wp2_with fail
      clear c1 cl
      go_loopw [48] (fun u wq => ∃ t : Nat, t ≤ p.ts.length ∧ u = .int .i64 t ∧ Hid (PrS w wq (pgC A c B d p) g (X0 ++ [bI p.ts.length] ++ (p.ts.take t).flatMap thE))) (fun u _ => p.ts.length - (intOf u).toNat)
      case atStart => exact ⟨0, by omega, rfl, HS6⟩
      case round =>
        clear HS6
        obtain ⟨t, ht, rfl, hS⟩ := hrel
        by_cases hlt : t < p.ts.length
        · have hii : (t : Int) < (p.ts.length : Int) := by omega
          obtain ⟨l, hl⟩ : ∃ l, p.ts[t]? = some l := ⟨_, List.getElem?_eq_getElem hlt⟩
          obtain ⟨b, off, B2, d2, rfl, g0w, hil⟩ := HH.out.2.at_ hl
          obtain ⟨hc3, hc4⟩ := seq_form hil
          have g0 := (hS.out.bel.cell (p := ⟨b, off + t, none⟩) (World.block_lt_of_cell? w _ g0w)).trans g0w
          have gl := World.block_lt_of_cell? _ _ g0
          clear g0w
          obtain ⟨h256, hrx⟩ := HTH.out l (List.mem_of_getElem? hl)
          have HIL := Lib.hid hil
          have HRX := Lib.hid hrx
          have HNX : Hid (X0 ++ [bI (p.ts.length : Int)] ++ (p.ts.take t).flatMap thE ++ (enc l.length ++ l.flatMap inE) = X0 ++ [bI p.ts.length] ++ (p.ts.take (t + 1)).flatMap thE) := by
            show _ = _
            rw [flat_next thE hl, List.append_assoc (X0 ++ [bI (p.ts.length : Int)])]; rfl
          have HLN : Hid ((X0 ++ [bI (p.ts.length : Int)] ++ (p.ts.take t).flatMap thE).length ≤ 100000) := by
            have := flat_le (f := thE) (m := 3850) (p.ts.take t) (fun q hq => by
              obtain ⟨h1, _⟩ := HTH.out q (List.mem_of_mem_take hq)
              have h2 := (enc_length q.length).2
              have h3 := flat_le (f := inE) (m := 15) q (fun x _ => by
                have := (enc_length x.k).2
                unfold inE
                simp only [List.length_append, List.length_cons, List.length_nil]; omega)
              unfold thE
              rw [List.length_append]; omega)
            rw [List.length_take] at this
            have := HX0.out
            show _ ≤ _
            simp only [List.length_append, List.length_cons, List.length_nil]; omega
          generalize X0 ++ [bI (p.ts.length : Int)] ++ (p.ts.take t).flatMap thE = X1 at *
          have hv := fun w => varintPrint l.length w (by unfold M64; omega)
          have hel := enc_length l.length
          have HV := Lib.hid hv
          clear hil hrx hl hv
          have hU : IntKind.u64.wrap (l.length : Int) = (l.length : Int) := IntWalk.u64_in _ (by omega)
          go_wp2_with fail
          refine (HV.out _).mono ?_
          rintro e w7 ⟨rfl, hb7⟩
          have HS7 := Lib.hid (hS.out.later hb7)
          clear hb7 g0 gl hS HV
          go_wp2_with fail
          refine (octetText w.heap.size g (textB X1) (textB (enc l.length)) w7 HS7.out.wr (by rw [textB_size, textB_size]; have := HLN.out; omega)).mono ?_
          rintro e w8 ⟨rfl, hw8, hk8⟩
          rw [text_append] at hw8
          have HS8 : Hid (PrS w w8 (pgC A c (some ⟨b, off, none⟩) d p) g (X1 ++ enc l.length ++ (l.take 0).flatMap inE)) := by
            have := HS7.out.put hw8 hk8
            show PrS _ _ _ _ _
            simpa using this
          clear HS7 hw8 hk8
          have HXL : Hid ((X1 ++ enc l.length).length ≤ 100010) := by
            have := HLN.out
            show _ ≤ _
            rw [List.length_append]; omega
          have HNX2 : Hid (∀ t, X1 ++ (enc l.length ++ t) = X1 ++ enc l.length ++ t) := fun t => (List.append_assoc _ _ _).symm
          rw [HNX2.out] at HNX
          generalize X1 ++ enc l.length = X2 at *
          clear HNX2 hel HLN
          go_wp2_with fail
          go_loopw [59] (fun u wq => ∃ k : Nat, k ≤ l.length ∧ u = .int .i64 k ∧ Hid (PrS w wq (pgC A c (some ⟨b, off, none⟩) d p) g (X2 ++ (l.take k).flatMap inE))) (fun u _ => l.length - (intOf u).toNat)
          case atStart => exact ⟨0, by omega, rfl, HS8⟩
          case round =>
            clear HS8
            obtain ⟨k, hk, rfl, hS⟩ := hrel
            by_cases hkl : k < l.length
            · have hkk : (k : Int) < (l.length : Int) := by omega
              obtain ⟨x, hx⟩ : ∃ x, l[k]? = some x := ⟨_, List.getElem?_eq_getElem hkl⟩
              obtain ⟨b3, off3, rfl, _, hg⟩ := InsAt.at_ (HIL.out.later hS.out.bel) hx
              have y0 := hg 0 _ (by decide) rfl
              have y1 := hg 1 _ (by decide) rfl
              have y2 := hg 2 _ (by decide) rfl
              have y3 := hg 3 _ (by decide) rfl
              have y4 := hg 4 _ (by decide) rfl
              have y5 := hg 5 _ (by decide) rfl
              rw [Nat.add_zero] at y0
              obtain ⟨m0, m1, m2, m3, m4, m5⟩ := right_bytes (HRX.out x (List.mem_of_getElem? hx))
              have n2 : IntKind.u8.wrap x.op = x.op := by rw [IntKind.wrap_u8]; omega
              have n3 : IntKind.u8.wrap x.a = x.a := by rw [IntKind.wrap_u8]; omega
              have n4 : IntKind.u8.wrap x.b = x.b := by rw [IntKind.wrap_u8]; omega
              have n5 : IntKind.u8.wrap x.c = x.c := by rw [IntKind.wrap_u8]; omega
              have n6 : IntKind.u8.wrap x.d = x.d := by rw [IntKind.wrap_u8]; omega
              have HCS : Hid ((#[.int .u8 x.op, .int .u8 x.a, .int .u8 x.b, .int .u8 x.c, .int .u8 x.d] : Array Value).toList = cellsB [bI x.op, bI x.a, bI x.b, bI x.c, bI x.d]) := by
                show _ = [Value.int .u8 ((bI x.op).toNat : Int), .int .u8 ((bI x.a).toNat : Int), .int .u8 ((bI x.b).toNat : Int), .int .u8 ((bI x.c).toNat : Int), .int .u8 ((bI x.d).toNat : Int)]
                rw [bI_cast (by omega) (by omega), bI_cast (by omega) (by omega), bI_cast (by omega) (by omega), bI_cast (by omega) (by omega), bI_cast (by omega) (by omega)]
              have hbx : Below wr.heap.size wr (wr.alloc (.cells (inC x) 24)) := (Below.refl _ _).alloc (Nat.le_refl _) _
              have HSX := Lib.hid (hS.out.later hbx)
              have hlx := Lies.made wr 24 (inC x)
              have HNX3 : Hid (X2 ++ (l.take k).flatMap inE ++ [bI x.op, bI x.a, bI x.b, bI x.c, bI x.d] ++ enc x.k = X2 ++ (l.take (k + 1)).flatMap inE) := by
                show _ = _
                rw [flat_next inE hx]
                unfold inE
                simp only [List.append_assoc]
              have HLN : Hid ((X2 ++ (l.take k).flatMap inE).length ≤ 200000) := by
                have := flat_le (f := inE) (m := 15) (l.take k) (fun x _ => by
                  have := (enc_length x.k).2
                  unfold inE
                  simp only [List.length_append, List.length_cons, List.length_nil]; omega)
                rw [List.length_take] at this
                have := HXL.out
                show _ ≤ _
                rw [List.length_append]; omega
              have hv := fun w => varintPrint x.k w (by unfold M64; omega)
              have HV := Lib.hid hv
              have HEK := Lib.hid (enc_length x.k)
              have HLX := Lib.hid hlx
              generalize X2 ++ (l.take k).flatMap inE = X3 at *
              clear hg hx hbx hS hv hlx m0 m1 m2 m3 m4
              go_wp2_with fail
              refine (octetPutLit w.heap.size g X3 [bI x.op, bI x.a, bI x.b, bI x.c, bI x.d] _ 5 (wr.heap.size + 1) (wr.alloc (.cells (inC x) 24)) (World.size_alloc _ _) rfl HCS.out HSX.out.wr (by have := HLN.out; simp only [List.length_cons, List.length_nil]; omega)).mono ?_
              rintro e w9 ⟨rfl, hw9, hk9⟩
              have HS9 := Lib.hid (HSX.out.put hw9 hk9)
              have HLX9 := Lib.hid (lies_wr HLX.out HSX.out.wr hk9 (by decide) (by decide))
              have z5 := (HLX9.out.cell 5).trans (show _ = some (Value.int .u64 (x.k : Int)) from rfl)
              have zl := HLX9.out.lt
              clear hw9 hk9 HSX HLX y0 y1 y2 y3 y4 y5 HCS
              go_wp2_with fail
              refine (HV.out _).mono ?_
              rintro e w10 ⟨rfl, hb10⟩
              have HS10 := Lib.hid (HS9.out.later hb10)
              clear hb10 HS9 HLX9 z5 zl HV
              go_wp2_with fail
              refine (octetText w.heap.size g (textB (X3 ++ [bI x.op, bI x.a, bI x.b, bI x.c, bI x.d])) (textB (enc x.k)) w10 HS10.out.wr (by rw [textB_size, textB_size, List.length_append]; have := HLN.out; have := HEK.out; simp only [List.length_cons, List.length_nil]; omega)).mono ?_
              rintro e w11 ⟨rfl, hw11, hk11⟩
              rw [text_append, HNX3.out] at hw11
              have HS11 := Lib.hid (HS10.out.put hw11 hk11)
              clear hw11 hk11 HS10
              go_wp2
              go_roundw
              case rel => exact ⟨k + 1, by omega, by go_num, HS11⟩
              case measure => simp [intOf]; omega
            · obtain rfl : k = l.length := by omega
              rw [List.take_length, HNX.out] at hS
              go_wp2
              go_roundw
              case rel => exact ⟨t + 1, by omega, by go_num, hS⟩
              case measure => simp [intOf]; omega
        · obtain rfl : t = p.ts.length := by omega
          rw [List.take_length, ← HPG.out] at hS
          have HSZ : Hid ((textB (pgE p)).size ≤ maxLen) := by
            have := flat_le (f := thE) (m := 3850) p.ts (fun q hq => by
              obtain ⟨h1, _⟩ := HTH.out q hq
              have h2 := (enc_length q.length).2
              have h3 := flat_le (f := inE) (m := 15) q (fun x _ => by
                have := (enc_length x.k).2
                unfold inE
                simp only [List.length_append, List.length_cons, List.length_nil]; omega)
              unfold thE
              rw [List.length_append]; omega)
            have := HX0.out
            show _ ≤ _
            rw [textB_size, HPG.out]
            unfold maxLen
            simp only [List.length_append, List.length_cons, List.length_nil]; omega
          go_wp2_with fail
          refine (octetString w.heap.size g (textB (pgE p)) wr hS.out.wr HSZ.out).mono ?_
          rintro e w12 ⟨rfl, rfl⟩
          go_wp2
          go_ret2
          exact ⟨by rw [HE.out.1, HE.out.2]; rfl, hS.out.bel⟩
end Go.Proofs.YtebgcehcnenjiaaDoor
