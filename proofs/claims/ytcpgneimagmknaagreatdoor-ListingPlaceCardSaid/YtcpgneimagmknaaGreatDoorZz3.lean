import Derived.Test.YtcpgneimagmknaaGreatDoorZz2
namespace Go.Proofs.YtcpgneimagmknaaGreatDoor
open Go.RowKit
set_option linter.unusedVariables false
set_option linter.unusedSimpArgs false
def bI (z : Int) : UInt8 := UInt8.ofNat z.toNat
theorem bI_cast {z : Int} (h0 : 0 ≤ z) (h1 : z ≤ 255) : ((bI z).toNat : Int) = z := by
 unfold bI
 rw [UInt8.toNat_ofNat', Nat.mod_eq_of_lt (by omega)]; omega
def riE (r : Ri) : List UInt8 := [bI r.k, bI r.c, bI r.r]
def inE (x : In) : List UInt8 := [bI x.op, bI x.a, bI x.b, bI x.c, bI x.d] ++ enc x.k
def thE (l : List In) : List UInt8 := enc l.length ++ l.flatMap inE
def pgE (p : Pg) : List UInt8 := [bI p.rs.length] ++ p.rs.flatMap riE ++ [bI p.ts.length] ++ p.ts.flatMap thE
def prE (p : Pg) : ByteArray := if encB p = true then textB (pgE p) else ByteArray.empty
def prC (p : Pg) : Int := if encB p = true then 0 else 1
theorem right_bytes {x : In} (h : rightB x = true) : (0 ≤ x.op ∧ x.op ≤ 255) ∧ (0 ≤ x.a ∧ x.a ≤ 255) ∧ (0 ≤ x.b ∧ x.b ≤ 255) ∧ (0 ≤ x.c ∧ x.c ≤ 255) ∧ (0 ≤ x.d ∧ x.d ≤ 255) ∧ x.k ≤ 18446744073709551615 := by
 unfold rightB at h
 simp only [Bool.and_eq_true] at h
 obtain ⟨h0, h1, h2, h3, h4, h5⟩ := h
 have g : (gL x.op).1 ≤ 7 ∧ (gL x.op).2.1 ≤ 7 ∧ (gL x.op).2.2.1 ≤ 7 ∧ (gL x.op).2.2.2 ≤ 7 := by
  rcases op_lit h0 with e | e | e | e | e | e | e | e | e | e | e | e | e | e | e | e | e | e | e | e | e | e | e | e | e
  all_goals rw [e]; decide
 unfold wB at h1 h2 h3 h4
 simp only [Bool.and_eq_true, decide_eq_true_eq] at h1 h2 h3 h4
 have h0 := of_decide_eq_true h0
 have h5 := of_decide_eq_true h5
 have := gK_wf x.op
 omega
theorem flat_le {α : Type} {f : α → List UInt8} {m : Nat} : ∀ (l : List α), (∀ x ∈ l, (f x).length ≤ m) → (l.flatMap f).length ≤ m * l.length
 | [], _ => by simp
 | x :: l, h => by
  rw [List.flatMap_cons, List.length_append, List.length_cons, Nat.mul_add, Nat.mul_one]
  have := h x (by simp)
  have := flat_le l (fun y hy => h y (List.mem_cons_of_mem _ hy))
  omega
theorem flat_next {α : Type} (f : α → List UInt8) {l : List α} {i : Nat} {x : α} (h : l[i]? = some x) : (l.take (i + 1)).flatMap f = (l.take i).flatMap f ++ f x := by
 rw [List.take_add_one, h, Option.toList_some, List.flatMap_append]; simp
theorem octetPutLit (B g : Nat) (b x : List UInt8) (cs : Array Value) (m gb : Nat) (w : World) (hgb : w.heap.size = gb) (hm : x.length = m) (hcs : cs.toList = cellsB x) (h : WrAt w B g (textB b)) (hs : b.length + x.length ≤ 140737488355328) :
  Calls Tryz.prog 41 #[.pointer (some ⟨g, 0, none⟩), .slice (some ⟨gb, 0, none⟩) m m] (w.alloc (.cells cs 5)) fun e w' =>
  e = .returned (.tuple #[]) ∧ WrAt w' B g (textB (b ++ x)) ∧ Kept (wrRows w B g) w w' := by
 subst hm hgb
 refine (octetPutSome B g (textB b) (textB x) ⟨w.heap.size, 0, none⟩ x.length x.length _ (textB_size x) (h.kept (Kept.alloc noRow _ _) (fun h => h) (fun _ _ _ h => h)) ?_ (by rw [textB_size, textB_size]; exact hs)).mono ?_
 ·intro j u hu
  rw [cellsB_text, ← hcs] at hu
  rw [addr_add, (Lies.made w _ _).cell j, ← hu]
  simp
 rintro e w' ⟨rfl, h1, h2⟩
 rw [text_append] at h1
 refine ⟨rfl, h1, Kept.trans (S := wrRows w B g) (Kept.alloc _ w _) h2 ?_⟩
 rintro i hi ⟨a1, a2⟩
 refine ⟨a1, ?_⟩
 rcases a2 with a2 | ⟨cur, a2⟩
 ·exact .inl a2
 ·exact .inr ⟨cur, (heap_alloc_old w _ hi).symm.trans a2⟩
structure PrS (W w : World) (box : Array Value) (g : Nat) (b : List UInt8) : Prop where
 lies : Lies w W.heap.size 25 box
 wr : WrAt w W.heap.size g (textB b)
 bel : Below W.heap.size W w
section
variable {W w w' : World} {box : Array Value} {g : Nat} {b b' : List UInt8}
theorem PrS.later (h : PrS W w box g b) (hb : Below w.heap.size w w') : PrS W w' box g b := ⟨h.lies.below hb h.lies.lt, h.wr.later hb, h.bel.trans (hb.mono h.bel.size)⟩
theorem PrS.put (h : PrS W w box g b) (hw : WrAt w' W.heap.size g (textB b')) (hk : Kept (wrRows w W.heap.size g) w w') : PrS W w' box g b' :=
 ⟨lies_wr h.lies h.wr hk (by decide) (by decide), hw, below_wr h.bel hk h.bel.size⟩
end
set_option maxHeartbeats 8000000 in
set_option maxRecDepth 100000 in
theorem cprint_any (p : Pg) (A : Option Addr) (c : Nat) (B : Option Addr) (d : Nat) (w : World) (h : PgAt w A c B d p) :
  Calls Tryz.prog 22 #[.agg (pgC A c B d p)] w fun e w' => e = .returned (.tuple #[.string (prE p), .int .i64 (prC p)]) ∧ Below w.heap.size w w' := by
 obtain ⟨hc1, hc2⟩ := seq_form h.1
 obtain ⟨hd1, hd2⟩ := h.2.form
 have hb0 : Below w.heap.size w (w.alloc (.cells (pgC A c B d p) 25)) := (Below.refl _ _).alloc (Nat.le_refl _) _
 have l0 := Lies.made w 25 (pgC A c B d p)
 have HC := Lib.hid (enc_any p A c B d _ (h.later hb0))
 have HH := Lib.hid h
 have HB0 := Lib.hid hb0
 have HL0 := Lib.hid l0
 clear h hb0 l0
 go_enter Tryz.func22, Tryz.ntmps22
 go_wp2_with fail
 generalize w.alloc (.cells (pgC A c B d p) 25) = w1 at *
 refine HC.out.mono ?_
 rintro e w2 ⟨rfl, hb2⟩
 have HL2 := Lib.hid (HL0.out.below hb2 HL0.out.lt)
 have HB2 := Lib.hid (HB0.out.trans (hb2.mono HB0.out.size))
 clear HC HB0 HL0 hb2
 obtain ⟨eb, heb⟩ : ∃ eb, encB p = eb := ⟨_, rfl⟩
 have HEB := Lib.hid heb
 rw [heb]
 clear heb
 cases eb
 case false =>
  go_wp2
  go_ret2
  exact ⟨by unfold prE prC; rw [HEB.out]; rfl, HB2.out⟩
 obtain ⟨hr8, ht8, hril, hthl⟩ := enc_parts.1 HEB.out
 have HRI := Lib.hid hril
 have HTH := Lib.hid hthl
 have HE : Hid (prE p = textB (pgE p) ∧ prC p = 0) := by
  show _ ∧ _
  unfold prE prC
  rw [HEB.out]; exact ⟨rfl, rfl⟩
 have HS : Hid (PrS w (w2.alloc (.cells #[.slice none 0 0] 76)) (pgC A c B d p) w2.heap.size []) := by
  have hbx : Below w2.heap.size w2 (w2.alloc (.cells #[.slice none 0 0] 76)) := (Below.refl _ _).alloc (Nat.le_refl _) _
  exact ⟨HL2.out.below hbx HL2.out.lt, WrAt.fresh w2 w.heap.size HB2.out.size, HB2.out.trans (hbx.mono HB2.out.size)⟩
 clear hril hthl HL2 HB2
 go_upto_region 4 with (fail)
 generalize w2.alloc (.cells #[.slice none 0 0] 76) = w3 at *
 generalize w2.heap.size = g at *
 have c0 := (HS.out.lies.cell 0).trans (show _ = some (Value.slice A p.rs.length c) from rfl)
 have cl := HS.out.lies.lt
 have n1 : IntKind.u8.wrap (p.rs.length : Int) = (p.rs.length : Int) := by rw [IntKind.wrap_u8]; omega
 go_wp2_with fail
 refine (octetPutLit w.heap.size g [] [bI p.rs.length] _ 1 _ w3 rfl rfl (by rw [show cellsB [bI p.rs.length] = [.int .u8 ((bI p.rs.length).toNat : Int)] from rfl, bI_cast (by omega) (by omega)]) HS.out.wr (by simp)).mono ?_
 rintro e w4 ⟨rfl, hw4, hk4⟩
 rw [List.nil_append] at hw4
 have HS2 : Hid (PrS w w4 (pgC A c B d p) g ([bI p.rs.length] ++ (p.rs.take 0).flatMap riE)) := by
  have := HS.out.put hw4 hk4
  show PrS _ _ _ _ _
  simpa using this
 clear HS hw4 hk4 c0 cl
 have c0 := (HS2.out.lies.cell 0).trans (show _ = some (Value.slice A p.rs.length c) from rfl)
 have cl := HS2.out.lies.lt
 go_wp2_with fail
 clear c0 cl
 go_loopw [23] (fun u wr => ∃ i : Nat, i ≤ p.rs.length ∧ u = .int .i64 i ∧ Hid (PrS w wr (pgC A c B d p) g ([bI p.rs.length] ++ (p.rs.take i).flatMap riE))) (fun u _ => p.rs.length - (intOf u).toNat)
 case atStart => exact ⟨0, by omega, rfl, HS2⟩
 case round =>
  clear HS2
  obtain ⟨i, hi, rfl, hS⟩ := hrel
  by_cases hlt : i < p.rs.length
  ·have hii : (i : Int) < (p.rs.length : Int) := by omega
   obtain ⟨r, hr⟩ : ∃ r, p.rs[i]? = some r := ⟨_, List.getElem?_eq_getElem hlt⟩
   obtain ⟨b, off, rfl, hbl, hg⟩ := RisAt.at_ (HH.out.1.later hS.out.bel) hr
   have g0 := hg 0 _ (by decide) rfl
   have g1 := hg 1 _ (by decide) rfl
   have g2 := hg 2 _ (by decide) rfl
   rw [Nat.add_zero] at g0
   have hrr := HRI.out r (List.mem_of_getElem? hr)
   unfold rilB wB at hrr
   simp only [Bool.and_eq_true, decide_eq_true_eq] at hrr
   have n2 : IntKind.u8.wrap r.k = r.k := by rw [IntKind.wrap_u8]; omega
   have n3 : IntKind.u8.wrap r.c = r.c := by rw [IntKind.wrap_u8]; omega
   have n4 : IntKind.u8.wrap r.r = r.r := by rw [IntKind.wrap_u8]; omega
   have HCS : Hid ((#[.int .u8 r.k, .int .u8 r.c, .int .u8 r.r] : Array Value).toList = cellsB (riE r)) := by
    show _ = [Value.int .u8 ((bI r.k).toNat : Int), .int .u8 ((bI r.c).toNat : Int), .int .u8 ((bI r.r).toNat : Int)]
    rw [bI_cast (by omega) (by omega), bI_cast (by omega) (by omega), bI_cast (by omega) (by omega)]
   have hbx : Below wr.heap.size wr (wr.alloc (.cells #[.int .i64 r.k, .int .i64 r.c, .int .i64 r.r] 51)) := (Below.refl _ _).alloc (Nat.le_refl _) _
   have HSX := Lib.hid (hS.out.later hbx)
   have HNX : Hid ([bI (p.rs.length : Int)] ++ (p.rs.take i).flatMap riE ++ riE r = [bI p.rs.length] ++ (p.rs.take (i + 1)).flatMap riE) := by
    show _ = _
    rw [flat_next riE hr, List.append_assoc]
   have HLN : Hid (([bI (p.rs.length : Int)] ++ (p.rs.take i).flatMap riE).length ≤ 100) := by
    have := flat_le (f := riE) (m := 3) (p.rs.take i) (fun _ _ => Nat.le_refl _)
    rw [List.length_take] at this
    show _ ≤ _
    simp only [List.length_append, List.length_cons, List.length_nil]; omega
   clear hrr hg hr hbx hS
   go_wp2_with fail
   refine (octetPutLit w.heap.size g _ (riE r) _ 3 (wr.heap.size + 1) (wr.alloc (.cells #[.int .i64 r.k, .int .i64 r.c, .int .i64 r.r] 51)) (World.size_alloc _ _) rfl HCS.out HSX.out.wr (by have := HLN.out; simp only [riE, List.length_cons, List.length_nil]; omega)).mono ?_
   rintro e w5 ⟨rfl, hw5, hk5⟩
   rw [HNX.out] at hw5
   have HS5 := Lib.hid (HSX.out.put hw5 hk5)
   clear hw5 hk5 g0 g1 g2
   go_wp2
   go_roundw
   case rel => exact ⟨i + 1, by omega, by go_num, HS5⟩
   case measure => simp [intOf]; omega
  ·obtain rfl : i = p.rs.length := by omega
   rw [List.take_length] at hS
   have HX0 : Hid (([bI (p.rs.length : Int)] ++ p.rs.flatMap riE).length ≤ 100) := by
    have := flat_le (f := riE) (m := 3) p.rs (fun _ _ => Nat.le_refl _)
    show _ ≤ _
    simp only [List.length_append, List.length_cons, List.length_nil]; omega
   have HPG : Hid (pgE p = ([bI (p.rs.length : Int)] ++ p.rs.flatMap riE) ++ [bI p.ts.length] ++ p.ts.flatMap thE) := rfl
   generalize [bI (p.rs.length : Int)] ++ p.rs.flatMap riE = X0 at *
   have c1 := (hS.out.lies.cell 1).trans (show _ = some (Value.slice B p.ts.length d) from rfl)
   have cl := hS.out.lies.lt
   have n1 : IntKind.u8.wrap (p.ts.length : Int) = (p.ts.length : Int) := by rw [IntKind.wrap_u8]; omega
   go_wp2_with fail
   refine (octetPutLit w.heap.size g X0 [bI p.ts.length] _ 1 _ wr rfl rfl (by rw [show cellsB [bI p.ts.length] = [.int .u8 ((bI p.ts.length).toNat : Int)] from rfl, bI_cast (by omega) (by omega)]) hS.out.wr (by have := HX0.out; simp only [List.length_cons, List.length_nil]; omega)).mono ?_
   rintro e w6 ⟨rfl, hw6, hk6⟩
   have HS6 : Hid (PrS w w6 (pgC A c B d p) g (X0 ++ [bI p.ts.length] ++ (p.ts.take 0).flatMap thE)) := by
    have := hS.out.put hw6 hk6
    show PrS _ _ _ _ _
    simpa using this
   clear hS hw6 hk6 c1 cl
   have c1 := (HS6.out.lies.cell 1).trans (show _ = some (Value.slice B p.ts.length d) from rfl)
   have cl := HS6.out.lies.lt
   go_wp2_with fail
   clear c1 cl
   go_loopw [48] (fun u wq => ∃ t : Nat, t ≤ p.ts.length ∧ u = .int .i64 t ∧ Hid (PrS w wq (pgC A c B d p) g (X0 ++ [bI p.ts.length] ++ (p.ts.take t).flatMap thE))) (fun u _ => p.ts.length - (intOf u).toNat)
   case atStart => exact ⟨0, by omega, rfl, HS6⟩
   case round =>
    clear HS6
    obtain ⟨t, ht, rfl, hS⟩ := hrel
    by_cases hlt : t < p.ts.length
    ·have hii : (t : Int) < (p.ts.length : Int) := by omega
     obtain ⟨l, hl⟩ : ∃ l, p.ts[t]? = some l := ⟨_, List.getElem?_eq_getElem hlt⟩
     obtain ⟨b, off, B2, d2, rfl, g0w, hil⟩ := HH.out.2.at_ hl
     obtain ⟨hc3, hc4⟩ := seq_form hil
     have g0 := (hS.out.bel.cell (p := ⟨b, off + t, none⟩) (World.block_lt_of_cell? w _ g0w)).trans g0w
     have gl := World.block_lt_of_cell? _ _ g0
     clear g0w
     obtain ⟨h256, hrx⟩ := HTH.out l (List.mem_of_getElem? hl)
     have HIL := Lib.hid hil
     have HRX := Lib.hid hrx
     have HNX : Hid (X0 ++ [bI (p.ts.length : Int)] ++ (p.ts.take t).flatMap thE ++ (enc l.length ++ l.flatMap inE) = X0 ++ [bI p.ts.length] ++ (p.ts.take (t + 1)).flatMap thE) := by
      show _ = _
      rw [flat_next thE hl, List.append_assoc (X0 ++ [bI (p.ts.length : Int)])]; rfl
     have HLN : Hid ((X0 ++ [bI (p.ts.length : Int)] ++ (p.ts.take t).flatMap thE).length ≤ 100000) := by
      have := flat_le (f := thE) (m := 3850) (p.ts.take t) (fun q hq => by
       obtain ⟨h1, _⟩ := HTH.out q (List.mem_of_mem_take hq)
       have h2 := (enc_length q.length).2
       have h3 := flat_le (f := inE) (m := 15) q (fun x _ => by
        have := (enc_length x.k).2
        unfold inE
        simp only [List.length_append, List.length_cons, List.length_nil]; omega)
       unfold thE
       rw [List.length_append]; omega)
      rw [List.length_take] at this
      have := HX0.out
      show _ ≤ _
      simp only [List.length_append, List.length_cons, List.length_nil]; omega
     generalize X0 ++ [bI (p.ts.length : Int)] ++ (p.ts.take t).flatMap thE = X1 at *
     have hv := fun w => varintPrint l.length w (by unfold M64; omega)
     have hel := enc_length l.length
     have HV := Lib.hid hv
     clear hil hrx hl hv
     have hU : IntKind.u64.wrap (l.length : Int) = (l.length : Int) := IntWalk.u64_in _ (by omega)
     go_wp2_with fail
     refine (HV.out _).mono ?_
     rintro e w7 ⟨rfl, hb7⟩
     have HS7 := Lib.hid (hS.out.later hb7)
     clear hb7 g0 gl hS HV
     go_wp2_with fail
     refine (octetText w.heap.size g (textB X1) (textB (enc l.length)) w7 HS7.out.wr (by rw [textB_size, textB_size]; have := HLN.out; omega)).mono ?_
     rintro e w8 ⟨rfl, hw8, hk8⟩
     rw [text_append] at hw8
     have HS8 : Hid (PrS w w8 (pgC A c (some ⟨b, off, none⟩) d p) g (X1 ++ enc l.length ++ (l.take 0).flatMap inE)) := by
      have := HS7.out.put hw8 hk8
      show PrS _ _ _ _ _
      simpa using this
     clear HS7 hw8 hk8
     have HXL : Hid ((X1 ++ enc l.length).length ≤ 100010) := by
      have := HLN.out
      show _ ≤ _
      rw [List.length_append]; omega
     have HNX2 : Hid (∀ t, X1 ++ (enc l.length ++ t) = X1 ++ enc l.length ++ t) := fun t => (List.append_assoc _ _ _).symm
     rw [HNX2.out] at HNX
     generalize X1 ++ enc l.length = X2 at *
     clear HNX2 hel HLN
     go_wp2_with fail
     go_loopw [59] (fun u wq => ∃ k : Nat, k ≤ l.length ∧ u = .int .i64 k ∧ Hid (PrS w wq (pgC A c (some ⟨b, off, none⟩) d p) g (X2 ++ (l.take k).flatMap inE))) (fun u _ => l.length - (intOf u).toNat)
     case atStart => exact ⟨0, by omega, rfl, HS8⟩
     case round =>
      clear HS8
      obtain ⟨k, hk, rfl, hS⟩ := hrel
      by_cases hkl : k < l.length
      ·have hkk : (k : Int) < (l.length : Int) := by omega
       obtain ⟨x, hx⟩ : ∃ x, l[k]? = some x := ⟨_, List.getElem?_eq_getElem hkl⟩
       obtain ⟨b3, off3, rfl, _, hg⟩ := InsAt.at_ (HIL.out.later hS.out.bel) hx
       have y0 := hg 0 _ (by decide) rfl
       have y1 := hg 1 _ (by decide) rfl
       have y2 := hg 2 _ (by decide) rfl
       have y3 := hg 3 _ (by decide) rfl
       have y4 := hg 4 _ (by decide) rfl
       have y5 := hg 5 _ (by decide) rfl
       rw [Nat.add_zero] at y0
       obtain ⟨m0, m1, m2, m3, m4, m5⟩ := right_bytes (HRX.out x (List.mem_of_getElem? hx))
       have n2 : IntKind.u8.wrap x.op = x.op := by rw [IntKind.wrap_u8]; omega
       have n3 : IntKind.u8.wrap x.a = x.a := by rw [IntKind.wrap_u8]; omega
       have n4 : IntKind.u8.wrap x.b = x.b := by rw [IntKind.wrap_u8]; omega
       have n5 : IntKind.u8.wrap x.c = x.c := by rw [IntKind.wrap_u8]; omega
       have n6 : IntKind.u8.wrap x.d = x.d := by rw [IntKind.wrap_u8]; omega
       have HCS : Hid ((#[.int .u8 x.op, .int .u8 x.a, .int .u8 x.b, .int .u8 x.c, .int .u8 x.d] : Array Value).toList = cellsB [bI x.op, bI x.a, bI x.b, bI x.c, bI x.d]) := by
        show _ = [Value.int .u8 ((bI x.op).toNat : Int), .int .u8 ((bI x.a).toNat : Int), .int .u8 ((bI x.b).toNat : Int), .int .u8 ((bI x.c).toNat : Int), .int .u8 ((bI x.d).toNat : Int)]
        rw [bI_cast (by omega) (by omega), bI_cast (by omega) (by omega), bI_cast (by omega) (by omega), bI_cast (by omega) (by omega), bI_cast (by omega) (by omega)]
       have hbx : Below wr.heap.size wr (wr.alloc (.cells (inC x) 28)) := (Below.refl _ _).alloc (Nat.le_refl _) _
       have HSX := Lib.hid (hS.out.later hbx)
       have hlx := Lies.made wr 28 (inC x)
       have HNX3 : Hid (X2 ++ (l.take k).flatMap inE ++ [bI x.op, bI x.a, bI x.b, bI x.c, bI x.d] ++ enc x.k = X2 ++ (l.take (k + 1)).flatMap inE) := by
        show _ = _
        rw [flat_next inE hx]
        unfold inE
        simp only [List.append_assoc]
       have HLN : Hid ((X2 ++ (l.take k).flatMap inE).length ≤ 200000) := by
        have := flat_le (f := inE) (m := 15) (l.take k) (fun x _ => by
         have := (enc_length x.k).2
         unfold inE
         simp only [List.length_append, List.length_cons, List.length_nil]; omega)
        rw [List.length_take] at this
        have := HXL.out
        show _ ≤ _
        rw [List.length_append]; omega
       have hv := fun w => varintPrint x.k w (by unfold M64; omega)
       have HV := Lib.hid hv
       have HEK := Lib.hid (enc_length x.k)
       have HLX := Lib.hid hlx
       generalize X2 ++ (l.take k).flatMap inE = X3 at *
       clear hg hx hbx hS hv hlx m0 m1 m2 m3 m4
       go_wp2_with fail
       refine (octetPutLit w.heap.size g X3 [bI x.op, bI x.a, bI x.b, bI x.c, bI x.d] _ 5 (wr.heap.size + 1) (wr.alloc (.cells (inC x) 28)) (World.size_alloc _ _) rfl HCS.out HSX.out.wr (by have := HLN.out; simp only [List.length_cons, List.length_nil]; omega)).mono ?_
       rintro e w9 ⟨rfl, hw9, hk9⟩
       have HS9 := Lib.hid (HSX.out.put hw9 hk9)
       have HLX9 := Lib.hid (lies_wr HLX.out HSX.out.wr hk9 (by decide) (by decide))
       have z5 := (HLX9.out.cell 5).trans (show _ = some (Value.int .u64 (x.k : Int)) from rfl)
       have zl := HLX9.out.lt
       clear hw9 hk9 HSX HLX y0 y1 y2 y3 y4 y5 HCS
       go_wp2_with fail
       refine (HV.out _).mono ?_
       rintro e w10 ⟨rfl, hb10⟩
       have HS10 := Lib.hid (HS9.out.later hb10)
       clear hb10 HS9 HLX9 z5 zl HV
       go_wp2_with fail
       refine (octetText w.heap.size g (textB (X3 ++ [bI x.op, bI x.a, bI x.b, bI x.c, bI x.d])) (textB (enc x.k)) w10 HS10.out.wr (by rw [textB_size, textB_size, List.length_append]; have := HLN.out; have := HEK.out; simp only [List.length_cons, List.length_nil]; omega)).mono ?_
       rintro e w11 ⟨rfl, hw11, hk11⟩
       rw [text_append, HNX3.out] at hw11
       have HS11 := Lib.hid (HS10.out.put hw11 hk11)
       clear hw11 hk11 HS10
       go_wp2
       go_roundw
       case rel => exact ⟨k + 1, by omega, by go_num, HS11⟩
       case measure => simp [intOf]; omega
      ·obtain rfl : k = l.length := by omega
       rw [List.take_length, HNX.out] at hS
       go_wp2
       go_roundw
       case rel => exact ⟨t + 1, by omega, by go_num, hS⟩
       case measure => simp [intOf]; omega
    ·obtain rfl : t = p.ts.length := by omega
     rw [List.take_length, ← HPG.out] at hS
     have HSZ : Hid ((textB (pgE p)).size ≤ maxLen) := by
      have := flat_le (f := thE) (m := 3850) p.ts (fun q hq => by
       obtain ⟨h1, _⟩ := HTH.out q hq
       have h2 := (enc_length q.length).2
       have h3 := flat_le (f := inE) (m := 15) q (fun x _ => by
        have := (enc_length x.k).2
        unfold inE
        simp only [List.length_append, List.length_cons, List.length_nil]; omega)
       unfold thE
       rw [List.length_append]; omega)
      have := HX0.out
      show _ ≤ _
      rw [textB_size, HPG.out]
      unfold maxLen
      simp only [List.length_append, List.length_cons, List.length_nil]; omega
     go_wp2_with fail
     refine (octetString w.heap.size g (textB (pgE p)) wr hS.out.wr HSZ.out).mono ?_
     rintro e w12 ⟨rfl, rfl⟩
     go_wp2
     go_ret2
     exact ⟨by rw [HE.out.1, HE.out.2]; rfl, hS.out.bel⟩
def lsB (p : Pg) : Bool := encB p && p.rs.all rilOk
def prnT (p : Pg) : ByteArray := if lsB p = true then textB (prL p) else ⟨#[]⟩
def prnE (p : Pg) : Int := if lsB p = true then 0 else 1
theorem prn_no {p : Pg} (h : lsB p = false) : prnT p = ⟨#[]⟩ ∧ prnE p = 1 := by
 unfold prnT prnE
 rw [h]
 exact ⟨if_neg (by decide), if_neg (by decide)⟩
theorem lnR_len (r : Ri) : (lnR r).length ≤ 46 := by
 unfold lnR
 have h1 := @decE_len r.c.toNat
 have h2 := @decE_len r.r.toNat
 split
 ·simp only [List.length_append, List.length_cons, List.length_nil]; omega
 ·simp only [List.length_append, List.length_cons, List.length_nil]; omega
theorem prIs_len (l : List In) : (prIs l).length ≤ 201 * l.length := by
 have := flat_le (f := fun x => lnI x ++ [10]) (m := 201) l (fun x _ => by
  have := lnI_len x
  simp only [List.length_append, List.length_cons, List.length_nil]; omega)
 unfold prIs; omega
theorem prL_len {p : Pg} (h : encB p = true) : (prL p).length ≤ 1000000 := by
 obtain ⟨h1, h2, _, h4⟩ := enc_parts.1 h
 have e1 := flat_le (f := fun r => lnR r ++ [10]) (m := 47) p.rs (fun x _ => by
  have := lnR_len x
  simp only [List.length_append, List.length_cons, List.length_nil]; omega)
 have e2 := flat_le (f := fun t => thrW ++ prIs t) (m := 60000) p.ts (fun x hx => by
  have := prIs_len x
  have := (h4 x hx).1
  unfold thrW
  simp only [List.length_append, List.length_cons, List.length_nil]; omega)
 unfold prL prRs prTs
 rw [List.length_append]; omega
structure PnS (w q : World) (g : Nat) (pc : Array Value) (v : Value) (pre : List UInt8) (N : Nat) : Prop where
 lies : Lies q g 25 pc
 tx : ∃ ws : List (List UInt8), ws.flatten = pre ∧ ws.length ≤ N ∧ q.ownsRow w.heap.size 9 1 v ws.length (cellsW ws)
 bel : Below w.heap.size w q
theorem PnS.later {w q q' : World} {g N : Nat} {pc : Array Value} {v : Value} {pre : List UInt8} (h : PnS w q g pc v pre N) (hb : Below q.heap.size q q') : PnS w q' g pc v pre N := by
 obtain ⟨ws, h1, h2, h3⟩ := h.tx
 exact ⟨h.lies.below hb h.lies.lt, ⟨ws, h1, h2, owned_below h3 hb⟩, h.bel.trans (hb.mono h.bel.size)⟩
theorem PnS.app {w q q' : World} {g N : Nat} {pc : Array Value} {v v8 : Value} {pre : List UInt8} {ws : List (List UInt8)} {ob : Obj} (hl : Lies q g 25 pc) (hbel : Below w.heap.size w q)
  (ho : q.ownsRow w.heap.size 9 1 v ws.length (cellsW ws)) (hfl : ws.flatten = pre) (hwn : ws.length ≤ N) (ns : List (List UInt8))
  (ho8 : q'.ownsRow w.heap.size 9 1 v8 (ws.length + ns.length) (cellsW ws ++ cellsW ns)) (hb8 : Below w.heap.size q q') (hgr : (q.alloc ob).grownBy q' v.ownBlock) : PnS w q' g pc v8 (pre ++ ns.flatten) (N + ns.length) := by
 refine ⟨hl.kept (kept_grown hgr) (own_ne ho hl (by decide)), ⟨ws ++ ns, by rw [List.flatten_append, hfl], by rw [List.length_append]; omega, ?_⟩, hbel.trans hb8⟩
 rw [List.length_append, show cellsW (ws ++ ns) = cellsW ws ++ cellsW ns by unfold cellsW; rw [List.map_append]]
 exact ho8
theorem append_two {P : Program} {ops : Array Oper} {rest : List Oper} {o : Oper} {a : Act} {Q : Exit → Act → World → Prop} (w : World) (x x2 : Value)
  (hg : o.guard = none) (s y : Operand) (t : TypeId) (hop : o.op = Op.call { callee := Callee.builtin Builtin.append, args := #[s, y], argTypes := #[t, t] })
  (base : Nat) (e : TypeId) (z : Value) (bytes : Nat) (ht : P.underlying t = some (.slice e)) (hi : (P.info? e).map (fun i => (i.zero, i.size, i.bytes)) = some (some z, 1, bytes))
  (hzs : z.cells.size = 1) (hx1 : x.oneCell' = true) (hx2 : x2.oneCell' = true)
  (v : Value) (n : Nat) (xs : List Value) (hs : a.eval s = v) (hown : w.ownsRow base e 1 v n xs) (hy : a.eval y = .slice (some ⟨w.heap.size, 0, none⟩) 2 2)
  (b1 : n + 2 ≤ maxLen) (b2 : (n + 2) * bytes ≤ 140737488355328) (b3 : base ≤ w.heap.size)
  (hK : ∀ v' w', w'.ownsRow base e 1 v' (n + 2) (xs ++ [x, x2]) → Below base w w' → (w.alloc (.cells #[x, x2] e)).grownBy w' v.ownBlock → wpList P ops Q rest (a.put o.dst v') w') :
  wpList P ops Q (o :: rest) a (w.alloc (.cells #[x, x2] e)) := by
 obtain ⟨i0, hi, hz0, hz1, hz2⟩ := info_parts hi
 refine wpList_append_own _ hg s y t hop base e i0 z 1 bytes ht hi hz0 hz1 hz2 hzs (by decide) v n xs hs (hown.alloc _) ⟨w.heap.size, 0, none⟩ 2 2 [x, x2] hy rfl ?_ ?_ b1 b2 (by simp; omega) ?_
 ·intro j u hj
  match j, hj with
  | 0, hj => simp at hj; subst hj; simp [Addr.add, World.cell?_alloc_at]
  | 1, hj => simp at hj; subst hj; simp [Addr.add, World.cell?_alloc_at]
 ·intro u hu
  simp only [List.mem_cons, List.not_mem_nil, or_false] at hu
  rcases hu with rfl | rfl
  ·exact hx1
  ·exact hx2
 ·intro v' w' ho hgr _
  exact hK v' w' ho (below_of_grown hown b3 hgr) hgr
theorem join_no (ws : List (List UInt8)) : Lib.join ws [] = ws.flatten := by
 cases ws with
 | nil => rfl
 | cons a r =>
  rw [Lib.join_cons]
  unfold Lib.joinTail
  simp
set_option maxHeartbeats 16000000 in
set_option maxRecDepth 100000 in
theorem print10 (p : Pg) (A : Option Addr) (c : Nat) (B : Option Addr) (d : Nat) (w : World) (h : PgAt w A c B d p) (hn : NamesAt w) (hp : PowAt w) :
  Calls Tryz.prog 11 #[.agg (pgC A c B d p)] w fun e w' => e = .returned (.tuple #[.string (prnT p), .int .i64 (prnE p)]) ∧ Below w.heap.size w w' := by
 obtain ⟨hc1, hc2⟩ := seq_form h.1
 obtain ⟨hd1, hd2⟩ := h.2.form
 have hb0 : Below w.heap.size w (w.alloc (.cells (pgC A c B d p) 25)) := (Below.refl _ _).alloc (Nat.le_refl _) _
 have HC := Lib.hid (cprint_any p A c B d _ (h.later hb0))
 have HH := Lib.hid h
 have HN := Lib.hid hn
 have HP := Lib.hid hp
 have HG := Lib.hid hn.lt
 have HB0 := Lib.hid hb0
 have HL0 := Lib.hid (Lies.made w 25 (pgC A c B d p))
 clear h hb0 hn hp
 go_enter Tryz.func11, Tryz.ntmps11
 go_upto_region 1 with (fail)
 obtain ⟨g, hg⟩ : ∃ g, g = w.heap.size := ⟨_, rfl⟩
 rw [← hg] at HL0 ⊢
 clear hg
 generalize w.alloc (.cells (pgC A c B d p) 25) = w1 at *
 have c0 := (HL0.out.cell 0).trans (show _ = some (Value.slice A p.rs.length c) from rfl)
 have c1 := (HL0.out.cell 1).trans (show _ = some (Value.slice B p.ts.length d) from rfl)
 have gl := HL0.out.lt
 go_wp2_with fail
 refine HC.out.mono ?_
 rintro e w2 ⟨rfl, hb2⟩
 have HL2 := Lib.hid (HL0.out.below hb2 HL0.out.lt)
 have HB2 := Lib.hid (HB0.out.trans (hb2.mono HB0.out.size))
 clear HC HB0 HL0 hb2 c0 c1 gl
 by_cases heb : encB p = true
 case neg =>
  have hls : lsB p = false := by unfold lsB; rw [Bool.not_eq_true] at heb; rw [heb]; rfl
  have HE := Lib.hid (prn_no hls)
  have e1 : prC p = 1 := if_neg heb
  rw [e1]
  go_wp2
  go_ret2
  exact ⟨by rw [HE.out.1, HE.out.2]; rfl, HB2.out⟩
 have e1 : prC p = 0 := if_pos heb
 rw [e1]
 have hln := prL_len heb
 obtain ⟨hr8, ht8, hril, hthl⟩ := enc_parts.1 heb
 have HEB := Lib.hid heb
 have HRI := Lib.hid hril
 have HTH := Lib.hid hthl
 have HLN := Lib.hid hln
 have HS : Hid (PnS w w2 g (pgC A c B d p) (.slice none 0 0) (prRs (p.rs.take 0)) (2 * 0)) := ⟨HL2.out, ⟨[], rfl, Nat.le_refl _, World.ownsRow_nil _ _ _ _⟩, HB2.out⟩
 clear hril hthl HL2 HB2 heb hln e1
 have c0 := (HS.out.lies.cell 0).trans (show _ = some (Value.slice A p.rs.length c) from rfl)
 have cl := HS.out.lies.lt
 go_wp2_with fail
 clear c0 cl
 go_loopw [6, 27] (fun v u wr => ∃ i : Nat, i ≤ p.rs.length ∧ u = .int .i64 i ∧ Hid (∀ r ∈ p.rs.take i, rilOk r = true) ∧ Hid (PnS w wr g (pgC A c B d p) v (prRs (p.rs.take i)) (2 * i))) (fun _ u _ => p.rs.length - (intOf u).toNat)
 case atStart => exact ⟨0, by omega, rfl, (fun r hr => by simp at hr), HS⟩
 case round =>
  clear HS
  obtain ⟨i, hi, rfl, HOKS, HS⟩ := hrel
  by_cases hlt : i < p.rs.length
  ·have hii : (i : Int) < (p.rs.length : Int) := by omega
   obtain ⟨r, hr⟩ : ∃ r, p.rs[i]? = some r := ⟨_, List.getElem?_eq_getElem hlt⟩
   obtain ⟨b, off, rfl, hbl, hg⟩ := RisAt.at_ (HH.out.1.later HS.out.bel) hr
   have g0 := hg 0 _ (by decide) rfl
   have g1 := hg 1 _ (by decide) rfl
   have g2 := hg 2 _ (by decide) rfl
   rw [Nat.add_zero] at g0
   have hrr := HRI.out r (List.mem_of_getElem? hr)
   unfold rilB wB at hrr
   simp only [Bool.and_eq_true, decide_eq_true_eq] at hrr
   have hbx : Below wr.heap.size wr (wr.alloc (.cells (riC r) 51)) := (Below.refl _ _).alloc (Nat.le_refl _) _
   have HSX := Lib.hid (HS.out.later hbx)
   have HI := Lib.hid (ringLine_any r (wr.alloc (.cells (riC r) 51)) hrr.2.1 hrr.2.2 (HP.out.later HSX.out.bel))
   have HRM := Lib.hid hr
   clear hrr hg hr hbx HS
   go_wp2_with fail
   refine HI.out.mono ?_
   rintro e w5 ⟨rfl, hb5⟩
   have HS5 := Lib.hid (HSX.out.later hb5)
   clear HSX HI hb5 g0 g1 g2 hbl
   by_cases hok : rilOk r = true
   case neg =>
    have hls : lsB p = false := by
     unfold lsB
     rw [Bool.and_eq_false_iff]
     refine .inr ?_
     rw [List.all_eq_false]
     exact ⟨r, List.mem_of_getElem? HRM.out, hok⟩
    have HE := Lib.hid (prn_no hls)
    rw [Bool.not_eq_true] at hok
    rw [hok]
    go_wp2
    go_ret2
    exact ⟨by rw [HE.out.1, HE.out.2]; rfl, HS5.out.bel⟩
   have hlt2 : lnrT r = textB (lnR r) := if_pos hok
   have HOK2 : Hid (∀ y ∈ p.rs.take (i + 1), rilOk y = true) := take_all_next HOKS.out HRM.out hok
   rw [hok, hlt2]
   clear hok hlt2
   obtain ⟨ws, hfl, hwn, ho⟩ := HS5.out.tx
   obtain ⟨A8, c8, rfl⟩ := own_sliceD ho
   have hz5 := HS5.out.bel.size
   have HO := Lib.hid ho
   have HFL := Lib.hid hfl
   clear ho hfl
   go_wp2_with (at_builtin; refine append_two _ (.string (textB (lnR r))) (.string ⟨#[10]⟩) rfl (.tmp 38) (.tmp 40) 52 rfl w.heap.size 9 _ _ Tryz.underlying52 Tryz.infoStr9 rfl rfl rfl _ _ _ rfl HO.out rfl (by unfold maxLen; omega) (by omega) hz5 ?_)
   intro v8 w8 ho8 hb8 hgr8
   have HS8 : Hid (PnS w w8 g (pgC (some ⟨b, off, none⟩) c B d p) v8 (prRs (p.rs.take (i + 1))) (2 * (i + 1))) := by
    have h9 := PnS.app HS5.out.lies HS5.out.bel HO.out HFL.out hwn [lnR r, [10]] ho8 hb8 hgr8
    have e9 : prRs (p.rs.take (i + 1)) = prRs (p.rs.take i) ++ [lnR r, [10]].flatten := by
     unfold prRs
     rw [flat_next _ HRM.out]
     simp
    show PnS _ _ _ _ _ _ _
    rw [e9]; exact h9
   clear ho8 hb8 hgr8 HS5 HO HFL hwn HRM HOKS
   go_wp2
   go_roundw
   case rel => exact ⟨i + 1, by omega, by go_num, HOK2, HS8⟩
   case measure => simp [intOf]; omega
  ·obtain rfl : i = p.rs.length := by omega
   rw [List.take_length] at HS HOKS
   have hls : lsB p = true := by
    unfold lsB
    rw [HEB.out, List.all_eq_true.2 HOKS.out]; rfl
   have HE : Hid (prnT p = textB (prL p) ∧ prnE p = 0) := ⟨if_pos hls, if_pos hls⟩
   clear hls HOKS HRI HEB
   have HS6 : Hid (PnS w wr g (pgC A c B d p) u6 (prRs p.rs ++ prTs (p.ts.take 0)) (16 + 513 * 0)) := by
    obtain ⟨ws, h1, h2, h3⟩ := HS.out.tx
    exact ⟨HS.out.lies, ⟨ws, by rw [h1]; simp [prTs], by omega, h3⟩, HS.out.bel⟩
   clear HS
   have c1 := (HS6.out.lies.cell 1).trans (show _ = some (Value.slice B p.ts.length d) from rfl)
   have cl := HS6.out.lies.lt
   go_wp2_with fail
   clear c1 cl
   go_loopw [6, 46] (fun v u wq => ∃ t : Nat, t ≤ p.ts.length ∧ u = .int .i64 t ∧ Hid (PnS w wq g (pgC A c B d p) v (prRs p.rs ++ prTs (p.ts.take t)) (16 + 513 * t))) (fun _ u _ => p.ts.length - (intOf u).toNat)
   case atStart => exact ⟨0, by omega, rfl, HS6⟩
   case round =>
    clear HS6
    obtain ⟨t, ht, rfl, HS⟩ := hrel
    by_cases hlt : t < p.ts.length
    ·have hii : (t : Int) < (p.ts.length : Int) := by omega
     obtain ⟨l, hl⟩ : ∃ l, p.ts[t]? = some l := ⟨_, List.getElem?_eq_getElem hlt⟩
     obtain ⟨b, off, B2, d2, rfl, g0w, hil⟩ := HH.out.2.at_ hl
     obtain ⟨hc3, hc4⟩ := seq_form hil
     have g0 := (HS.out.bel.cell (p := ⟨b, off + t, none⟩) (World.block_lt_of_cell? w _ g0w)).trans g0w
     have gl := World.block_lt_of_cell? _ _ g0
     clear g0w
     obtain ⟨h256, hrx⟩ := HTH.out l (List.mem_of_getElem? hl)
     have HIL := Lib.hid hil
     have HRX := Lib.hid hrx
     have HNX : Hid (prRs p.rs ++ prTs (p.ts.take t) ++ (thrW ++ prIs l) = prRs p.rs ++ prTs (p.ts.take (t + 1))) := by
      show _ = _
      unfold prTs
      rw [flat_next _ hl, List.append_assoc]
     clear hil hrx hl
     generalize prRs p.rs ++ prTs (p.ts.take t) = X1 at *
     obtain ⟨ws, hfl, hwn, ho⟩ := HS.out.tx
     obtain ⟨A8, c8, rfl⟩ := own_sliceD ho
     have hz5 := HS.out.bel.size
     have HO := Lib.hid ho
     have HFL := Lib.hid hfl
     clear ho hfl
     go_wp2_with (at_builtin; refine append_one _ (.string ⟨#[116, 104, 114, 101, 97, 100, 10]⟩) rfl (.tmp 50) (.tmp 51) 52 rfl w.heap.size 9 _ _ Tryz.underlying52 Tryz.infoStr9 rfl rfl _ _ _ rfl HO.out rfl (by unfold maxLen; omega) (by omega) hz5 ?_)
     intro v7 w7 ho7 hb7 hgr7
     have HS7 : Hid (PnS w w7 g (pgC A c (some ⟨b, off, none⟩) d p) v7 (X1 ++ thrW ++ prIs (l.take 0)) (16 + 513 * t + 1 + 2 * 0)) := by
      have h9 := PnS.app HS.out.lies HS.out.bel HO.out HFL.out hwn [thrW] ho7 hb7 hgr7
      show PnS _ _ _ _ _ _ _
      have e9 : X1 ++ thrW ++ prIs (l.take 0) = X1 ++ [thrW].flatten := by simp [prIs]
      rw [e9]; exact h9
     clear ho7 hb7 hgr7 HS HO HFL hwn g0 gl hz5
     go_wp2_with fail
     go_loopw [6, 55] (fun v u wq => ∃ k : Nat, k ≤ l.length ∧ u = .int .i64 k ∧ Hid (PnS w wq g (pgC A c (some ⟨b, off, none⟩) d p) v (X1 ++ thrW ++ prIs (l.take k)) (16 + 513 * t + 1 + 2 * k))) (fun _ u _ => l.length - (intOf u).toNat)
     case atStart => exact ⟨0, by omega, rfl, HS7⟩
     case round =>
      clear HS7
      obtain ⟨k, hk, rfl, HS⟩ := hrel
      by_cases hkl : k < l.length
      ·have hkk : (k : Int) < (l.length : Int) := by omega
       obtain ⟨x, hx⟩ : ∃ x, l[k]? = some x := ⟨_, List.getElem?_eq_getElem hkl⟩
       obtain ⟨b3, off3, rfl, _, hg⟩ := InsAt.at_ (HIL.out.later HS.out.bel) hx
       have y0 := hg 0 _ (by decide) rfl
       have y1 := hg 1 _ (by decide) rfl
       have y2 := hg 2 _ (by decide) rfl
       have y3 := hg 3 _ (by decide) rfl
       have y4 := hg 4 _ (by decide) rfl
       have y5 := hg 5 _ (by decide) rfl
       rw [Nat.add_zero] at y0
       have hright := HRX.out x (List.mem_of_getElem? hx)
       have hbx : Below wr.heap.size wr (wr.alloc (.cells (inC x) 28)) := (Below.refl _ _).alloc (Nat.le_refl _) _
       have HSX := Lib.hid (HS.out.later hbx)
       have hli := line_any x (wr.alloc (.cells (inC x) 28)) (NamesAt.later HN.out HSX.out.bel HG.out) (HP.out.later HSX.out.bel)
       rw [show lnT x = textB (lnI x) from if_pos hright, show lnE x = 0 from if_pos hright] at hli
       have HI := Lib.hid hli
       have HXM := Lib.hid hx
       clear hg hx hbx HS hli hright
       go_wp2_with fail
       refine HI.out.mono ?_
       rintro e w9 ⟨rfl, hb9⟩
       have HS9 := Lib.hid (HSX.out.later hb9)
       clear HSX HI hb9 y0 y1 y2 y3 y4 y5
       obtain ⟨ws2, hfl, hwn, ho⟩ := HS9.out.tx
       obtain ⟨A9, c9, rfl⟩ := own_sliceD ho
       have hz9 := HS9.out.bel.size
       have HO := Lib.hid ho
       have HFL := Lib.hid hfl
       clear ho hfl
       go_wp2_with (at_builtin; refine append_two _ (.string (textB (lnI x))) (.string ⟨#[10]⟩) rfl (.tmp 64) (.tmp 66) 52 rfl w.heap.size 9 _ _ Tryz.underlying52 Tryz.infoStr9 rfl rfl rfl _ _ _ rfl HO.out rfl (by unfold maxLen; omega) (by omega) hz9 ?_)
       intro v10 w10 ho8 hb8 hgr8
       have HS10 : Hid (PnS w w10 g (pgC A c (some ⟨b, off, none⟩) d p) v10 (X1 ++ thrW ++ prIs (l.take (k + 1))) (16 + 513 * t + 1 + 2 * (k + 1))) := by
        have h9 := PnS.app HS9.out.lies HS9.out.bel HO.out HFL.out hwn [lnI x, [10]] ho8 hb8 hgr8
        have e9 : X1 ++ thrW ++ prIs (l.take (k + 1)) = X1 ++ thrW ++ prIs (l.take k) ++ [lnI x, [10]].flatten := by
         unfold prIs
         rw [flat_next _ HXM.out]
         simp
        show PnS _ _ _ _ _ _ _
        rw [e9]; exact h9
       clear ho8 hb8 hgr8 HS9 HO HFL hwn HXM
       go_wp2
       go_roundw
       case rel => exact ⟨k + 1, by omega, by go_num, HS10⟩
       case measure => simp [intOf]; omega
      ·obtain rfl : k = l.length := by omega
       rw [List.take_length, List.append_assoc, HNX.out] at HS
       have HS2 : Hid (PnS w wr g (pgC A c (some ⟨b, off, none⟩) d p) u6 (prRs p.rs ++ prTs (p.ts.take (t + 1))) (16 + 513 * (t + 1))) := by
        obtain ⟨ws, h1, h2, h3⟩ := HS.out.tx
        exact ⟨HS.out.lies, ⟨ws, h1, by omega, h3⟩, HS.out.bel⟩
       go_wp2
       go_roundw
       case rel => exact ⟨t + 1, by omega, by go_num, HS2⟩
       case measure => simp [intOf]; omega
    ·obtain rfl : t = p.ts.length := by omega
     rw [List.take_length] at HS
     obtain ⟨ws, hfl, hwn, ho⟩ := HS.out.tx
     have hj : Lib.join ((ws.map textB).map (·.data.toList)) (⟨#[]⟩ : ByteArray).data.toList = prL p := by
      have e : (ws.map textB).map (·.data.toList) = ws := by
       rw [List.map_map]
       exact (List.map_congr_left (g := id) fun b _ => List.toList_toArray).trans (List.map_id _)
      rw [e]
      exact (join_no ws).trans hfl
     have hwl : (ws.map textB).length = ws.length := by rw [List.length_map]
     have HJ : Hid (∃ A8 c8, u6 = .slice A8 ws.length c8 ∧ ∀ q : World, Below wr.heap.size wr q → Calls Tryz.prog 24 #[.slice A8 ws.length c8, .string ⟨#[]⟩] q fun e w' => e = .returned (.string (textB (prL p))) ∧ Below q.heap.size q w') := by
      by_cases hw0 : ws.length = 0
      ·obtain ⟨A8, c8, e8⟩ := own_sliceD ho
       refine ⟨A8, c8, e8, fun q _ => ?_⟩
       obtain rfl : ws = [] := List.eq_nil_of_length_eq_zero hw0
       refine (Tryz.strings_Join_none A8 c8 ⟨#[]⟩ q).mono ?_
       rintro e w' ⟨rfl, rfl⟩
       refine ⟨?_, Below.refl _ _⟩
       rw [← hj]
       rfl
      ·obtain ⟨b8, o8, c8, e8, hc1, hc2, hbl, hcc⟩ := (SeqS.of_owns ho).cells1 (by omega)
       refine ⟨_, c8, e8, fun q hq => ?_⟩
       have h9 := Tryz.strings_Join b8 o8 c8 (ws.map textB) ⟨#[]⟩ q (fun j u hu => by
        rw [List.getElem?_map] at hu
        obtain ⟨z, hz, rfl⟩ := Option.map_eq_some_iff.1 hu
        refine cell_later (hcc j _ ?_) hq
        unfold cellsW
        rw [List.getElem?_map, hz]; rfl) (Nat.lt_of_lt_of_le hbl hq.size) (by rw [hwl]; omega) (by rw [hwl]; exact hc1) (by rw [hj]; have := HLN.out; omega)
       rw [hwl, hj] at h9
       exact h9
     obtain ⟨A8, c8, rfl, hJ⟩ := HJ.out
     have HJ2 := Lib.hid hJ
     clear hj hfl hwn ho hJ HJ hwl
     go_wp2_with fail
     refine (HJ2.out _ (Below.refl _ _)).mono ?_
     rintro e w9 ⟨rfl, hb9⟩
     have HB9 := Lib.hid (HS.out.bel.trans (hb9.mono HS.out.bel.size))
     go_wp2
     go_ret2
     exact ⟨by rw [HE.out.1, HE.out.2]; rfl, HB9.out⟩
def clnB (b : UInt8) : Prop := b ≠ 32 ∧ b ≠ 10
theorem dec_cln (n : Nat) : ∀ b ∈ decE n, clnB b := fun b hb => by
 have h := decF_dg 19 n b hb
 unfold isDg at h
 exact ⟨fun e => by rw [e] at h; exact absurd h.1 (by decide), fun e => by rw [e] at h; exact absurd h.1 (by decide)⟩
theorem wtB_cln (d : Int) : ∀ b ∈ wtB d, clnB b := by
 unfold wtB clnB
 split
 ·decide
 ·split <;> decide
theorem wrO_cln (x : In) (o : Nat) : ∀ b ∈ wrO x o, clnB b := by
 have h114 : clnB 114 := ⟨by decide, by decide⟩
 unfold wrO
 repeat' split
 all_goals first
  | exact dec_cln _
  | exact wtB_cln _
  | (intro b hb
     rcases List.mem_cons.1 hb with rfl | hb
     ·exact h114
     ·exact dec_cln _ b hb)
theorem nmT_cln {op : Int} (h : opB op = true) : ∀ b ∈ nmT op, clnB b := by
 unfold clnB
 rcases op_lit h with e | e | e | e | e | e | e | e | e | e | e | e | e | e | e | e | e | e | e | e | e | e | e | e | e
 all_goals
  rw [e]
  decide
theorem joinW_flat (w : List UInt8) : ∀ l : List (List UInt8), joinW 32 (w :: l) = w ++ l.flatMap (fun v => 32 :: v)
 | [] => by simp [joinW]
 | v :: l => by
  rw [joinW_cons, joinW_flat v l, List.flatMap_cons]
  simp
theorem right_op {x : In} (h : rightB x = true) : opB x.op = true := by
 unfold rightB at h
 rw [Bool.and_eq_true] at h
 exact h.1
theorem lnI_words {x : In} (h : rightB x = true) : WordsOf 32 (lnI x) (nmT x.op :: (odL x.op).map (wrO x)) := by
 refine ⟨by simp, ?_, ?_⟩
 ·intro w hw hb
  rcases List.mem_cons.1 hw with rfl | hw
  ·exact (nmT_cln (right_op h) _ hb).1 rfl
  ·obtain ⟨o, _, rfl⟩ := List.mem_map.1 hw
   exact (wrO_cln x o _ hb).1 rfl
 ·rw [joinW_flat]
  unfold lnI wdO
  rw [List.flatMap_map]
theorem words_eq {c : UInt8} {bs : List UInt8} {ws vs : List (List UInt8)} (h : WordsOf c bs ws) (k : WordsOf c bs vs) : ws = vs := joinW_inj h.no k.no h.ne k.ne (h.join.trans k.join.symm)
theorem rl_line {bs : List UInt8} {ws : List (List UInt8)} (hw : WordsOf 32 bs ws) (x : In) : rlR ws = (x, true) ↔ rightB x = true ∧ lnI x = bs := by
 constructor
 ·intro h
  cases ws with
  | nil => exact absurd rfl hw.ne
  | cons w0 rs =>
   obtain ⟨h1, h2⟩ := rlR_ok h
   refine ⟨h1, ?_⟩
   rw [← (lnI_words h1).join, ← h2]
   exact hw.join
 ·rintro ⟨h1, rfl⟩
  rw [words_eq hw (lnI_words h1)]
  exact rlR_line h1
theorem lnI_cln {x : In} (h : rightB x = true) : ∀ b ∈ lnI x, b ≠ 10 := by
 intro b hb
 rcases List.mem_append.1 hb with hb | hb
 ·exact (nmT_cln (right_op h) b hb).2
 ·obtain ⟨o, _, hb⟩ := List.mem_flatMap.1 hb
  rcases List.mem_cons.1 hb with rfl | hb
  ·decide
  ·exact (wrO_cln x o b hb).2
def rgW (r : Ri) : List (List UInt8) := if r.k = 1 then [quW, decE r.c.toNat] else [caW, decE r.c.toNat, decE r.r.toNat]
theorem lnR_words (r : Ri) : WordsOf 32 (lnR r) (rgW r) := by
 have hq : ∀ b ∈ quW, clnB b := by unfold clnB; decide
 have hc : ∀ b ∈ caW, clnB b := by unfold clnB; decide
 unfold rgW lnR
 split
 ·refine ⟨by simp, fun w hw hb => ?_, by rw [joinW_flat]; simp [quW]⟩
  simp only [List.mem_cons, List.not_mem_nil, or_false] at hw
  rcases hw with rfl | rfl
  ·exact (hq _ hb).1 rfl
  ·exact (dec_cln _ _ hb).1 rfl
 ·refine ⟨by simp, fun w hw hb => ?_, by rw [joinW_flat]; simp [caW]⟩
  simp only [List.mem_cons, List.not_mem_nil, or_false] at hw
  rcases hw with rfl | rfl | rfl
  ·exact (hc _ hb).1 rfl
  ·exact (dec_cln _ _ hb).1 rfl
  ·exact (dec_cln _ _ hb).1 rfl
theorem smB_dec {n : Nat} (h : n ≤ 255) : smB10 (decE n) = true := by
 unfold smB10
 rw [numB_dec (by omega), numV_dec (by omega), decide_eq_true h]; rfl
theorem smB_ok {b : List UInt8} (h : smB10 b = true) : numV b ≤ 255 ∧ decE (numV b) = b := by
 unfold smB10 at h
 rw [Bool.and_eq_true, decide_eq_true_eq] at h
 exact ⟨h.2, dec_numV h.1⟩
theorem rilOk_parts {r : Ri} (h : rilOk r = true) : (0 ≤ r.c ∧ r.c ≤ 255) ∧ (0 ≤ r.r ∧ r.r ≤ 255) ∧ ((r.k = 1 ∧ r.r = 1) ∨ r.k = 2) := by
 unfold rilOk at h
 simp only [Bool.and_eq_true, decide_eq_true_eq, Bool.or_eq_true, beq_iff_eq] at h
 exact ⟨⟨h.1.1, h.1.2.1⟩, h.1.2.2, h.2⟩
theorem rrR_line {r : Ri} (h : rilOk r = true) : ∃ w0 rs, rgW r = w0 :: rs ∧ rrR w0 rs = (r, true) := by
 obtain ⟨⟨c0, c1⟩, ⟨r0, r1⟩, hk⟩ := rilOk_parts h
 obtain ⟨k, c, rd⟩ := r
 simp only at c0 c1 r0 r1 hk
 obtain ⟨n, rfl⟩ : ∃ n : Nat, c = (n : Int) := ⟨c.toNat, by omega⟩
 obtain ⟨m, rfl⟩ : ∃ n : Nat, rd = (n : Int) := ⟨rd.toNat, by omega⟩
 rcases hk with ⟨rfl, hm⟩ | rfl
 ·obtain rfl : m = 1 := by omega
  refine ⟨quW, [decE n], by unfold rgW; rw [if_pos rfl]; rfl, ?_⟩
  rw [rrR_ok (fun b hb => by rw [List.mem_singleton.1 hb]; exact smB_dec (by omega)), rrT_q, numV_dec (by omega)]; rfl
 ·refine ⟨caW, [decE n, decE m], by unfold rgW; rw [if_neg (show ¬ (2 : Int) = 1 by decide)]; rfl, ?_⟩
  rw [rrR_ok (fun b hb => by
   simp only [List.mem_cons, List.not_mem_nil, or_false] at hb
   rcases hb with rfl | rfl
   ·exact smB_dec (by omega)
   ·exact smB_dec (by omega)), rrT_c, numV_dec (by omega), numV_dec (by omega)]
theorem rrT_ok {w0 : List UInt8} {rs : List (List UInt8)} {r : Ri} (hs : ∀ b ∈ rs, smB10 b = true) (h : rrT w0 rs = (r, true)) : rilOk r = true ∧ rgW r = w0 :: rs := by
 unfold rrT at h
 split at h
 ·rename_i a
  obtain ⟨h1, h2⟩ := smB_ok (hs a List.mem_cons_self)
  by_cases e : w0 = quW
  ·rw [if_pos e, Prod.mk.injEq] at h
   obtain rfl := h.1
   refine ⟨by rw [rilOk_eq (by simp; omega) (by simp)]; rfl, ?_⟩
   unfold rgW
   rw [if_pos rfl, e]
   show [quW, decE ((numV a : Nat) : Int).toNat] = _
   rw [Int.toNat_natCast, h2]
  ·rw [if_neg e, Prod.mk.injEq] at h
   exact absurd h.2 (by decide)
 ·rename_i a b
  obtain ⟨h1, h2⟩ := smB_ok (hs a List.mem_cons_self)
  obtain ⟨h3, h4⟩ := smB_ok (hs b (List.mem_cons_of_mem _ List.mem_cons_self))
  by_cases e : w0 = caW
  ·rw [if_pos e, Prod.mk.injEq] at h
   obtain rfl := h.1
   refine ⟨by rw [rilOk_eq (by simp; omega) (by simp; omega)]; simp, ?_⟩
   unfold rgW
   rw [if_neg (show ¬ (2 : Int) = 1 by decide), e]
   show [caW, decE ((numV a : Nat) : Int).toNat, decE ((numV b : Nat) : Int).toNat] = _
   rw [Int.toNat_natCast, Int.toNat_natCast, h2, h4]
  ·rw [if_neg e, Prod.mk.injEq] at h
   exact absurd h.2 (by decide)
 ·rw [Prod.mk.injEq] at h
  exact absurd h.2 (by decide)
theorem rrR_sound {w0 : List UInt8} {rs : List (List UInt8)} {r : Ri} (h : rrR w0 rs = (r, true)) : rilOk r = true ∧ rgW r = w0 :: rs := by
 unfold rrR at h
 by_cases hs : rs.all smB10 = true
 ·rw [if_pos hs] at h
  exact rrT_ok (List.all_eq_true.1 hs) h
 ·rw [if_neg hs, Prod.mk.injEq] at h
  exact absurd h.2 (by decide)
theorem rr_line {bs w0 : List UInt8} {rs : List (List UInt8)} (hw : WordsOf 32 bs (w0 :: rs)) (r : Ri) : rrR w0 rs = (r, true) ↔ rilOk r = true ∧ lnR r = bs := by
 constructor
 ·intro h
  obtain ⟨h1, h2⟩ := rrR_sound h
  refine ⟨h1, ?_⟩
  rw [← (lnR_words r).join, h2]
  exact hw.join
 ·rintro ⟨h1, rfl⟩
  have e := words_eq hw (lnR_words r)
  obtain ⟨w1, r1, e2, h2⟩ := rrR_line h1
  rw [e2] at e
  obtain ⟨rfl, rfl⟩ := List.cons.inj e
  exact h2
theorem lnR_cln {r : Ri} : ∀ b ∈ lnR r, b ≠ 10 := by
 have h1 := dec_cln r.c.toNat
 have h2 := dec_cln r.r.toNat
 have hq : ∀ b ∈ ([113, 117, 101, 117, 101, 32] : List UInt8), b ≠ 10 := by decide
 have hc : ∀ b ∈ ([99, 97, 115, 116, 32] : List UInt8), b ≠ 10 := by decide
 unfold lnR
 split
 ·intro b hb
  rcases List.mem_append.1 hb with hb | hb
  ·exact hq b hb
  ·exact (h1 b hb).2
 ·intro b hb
  rcases List.mem_append.1 hb with hb | hb
  ·exact hc b hb
  ·rcases List.mem_append.1 hb with hb | hb
   ·exact (h1 b hb).2
   ·rcases List.mem_cons.1 hb with rfl | hb
    ·decide
    ·exact (h2 b hb).2
def thW : List UInt8 := [116, 104, 114, 101, 97, 100]
def putI : List (List In) → In → List (List In)
 | [], x => []
 | [l], x => [l ++ [x]]
 | l :: m :: ts, x => l :: putI (m :: ts) x
theorem putI_snoc (ts : List (List In)) (l : List In) (x : In) : putI (ts ++ [l]) x = ts ++ [l ++ [x]] := by
 induction ts with
 | nil => rfl
 | cons a r ih =>
  cases hr : r ++ [l] with
  | nil => simp at hr
  | cons m q =>
   rw [List.cons_append, hr]
   show a :: putI (m :: q) x = _
   rw [← hr, ih]; rfl
noncomputable def adS (p : Pg) (w0 : List UInt8) (rs : List (List UInt8)) : Pg × Bool :=
 if w0 = quW ∨ w0 = caW then (⟨p.rs ++ [(rrR w0 rs).1], p.ts⟩, (rrR w0 rs).2 && (decide (p.ts.length = 0) && decide (p.rs.length + 1 ≤ 8)))
 else if w0 = thW then (⟨p.rs, p.ts ++ [[]]⟩, decide (rs.length = 0) && decide (p.ts.length + 1 ≤ 8))
 else if (rlR (w0 :: rs)).2 = true ∧ 0 < p.ts.length then (⟨p.rs, putI p.ts (rlR (w0 :: rs)).1⟩, decide ((p.ts.getLast?.getD []).length + 1 ≤ 256))
 else (p, false)
theorem pr_ring {rs : List Ri} (r : Ri) : prL ⟨rs ++ [r], []⟩ = prL ⟨rs, []⟩ ++ (lnR r ++ [10]) := by
 unfold prL prRs prTs
 simp
theorem pr_thread (p : Pg) : prL ⟨p.rs, p.ts ++ [[]]⟩ = prL p ++ (thW ++ [10]) := by
 unfold prL prTs
 simp [prIs, thrW, thW]
theorem pr_instr (rs : List Ri) (ts : List (List In)) (l : List In) (x : In) : prL ⟨rs, putI (ts ++ [l]) x⟩ = prL ⟨rs, ts ++ [l]⟩ ++ (lnI x ++ [10]) := by
 rw [putI_snoc]
 unfold prL prTs
 simp [prIs]
def lnsT (l : List (List UInt8)) : List UInt8 := l.flatMap fun w => w ++ [10]
theorem lnsT_cons (w : List UInt8) (l : List (List UInt8)) : lnsT (w :: l) = w ++ 10 :: lnsT l := by
 unfold lnsT
 rw [List.flatMap_cons]; simp
def lnsR (rs : List Ri) : List (List UInt8) := rs.map lnR
def lnsH (ts : List (List In)) : List (List UInt8) := ts.flatMap fun t => thW :: t.map lnI
theorem pr_lines (p : Pg) : prL p = lnsT (lnsR p.rs ++ lnsH p.ts) := by
 unfold prL lnsT lnsR lnsH
 rw [List.flatMap_append, List.flatMap_map, List.flatMap_assoc]
 have e : prTs p.ts = p.ts.flatMap fun t => (thW :: t.map lnI).flatMap fun w => w ++ [10] := by
  unfold prTs
  refine congrArg (fun f => p.ts.flatMap f) (funext fun t => ?_)
  rw [List.flatMap_cons, List.flatMap_map]
  rfl
 rw [e]
 rfl
theorem thW_words : WordsOf 32 thW [thW] := ⟨by simp, fun w hw => by rw [List.mem_singleton.1 hw]; decide, rfl⟩
theorem nm_apart {op : Int} (h : opB op = true) : nmT op ≠ thW ∧ nmT op ≠ quW ∧ nmT op ≠ caW := by
 rcases op_lit h with e | e | e | e | e | e | e | e | e | e | e | e | e | e | e | e | e | e | e | e | e | e | e | e | e
 all_goals
  rw [e]
  decide
theorem lnsH_cons (t : List In) (ts : List (List In)) : lnsH (t :: ts) = thW :: (t.map lnI ++ lnsH ts) := by
 unfold lnsH
 rw [List.flatMap_cons]; rfl
theorem ls_parts {p : Pg} (h : lsB p = true) : (∀ r ∈ p.rs, rilOk r = true) ∧ ∀ t ∈ p.ts, ∀ x ∈ t, rightB x = true := by
 unfold lsB at h
 rw [Bool.and_eq_true, List.all_eq_true] at h
 obtain ⟨_, _, _, h4⟩ := enc_parts.1 h.1
 exact ⟨h.2, fun t ht => (h4 t ht).2⟩
theorem lines_cln {p : Pg} (h : lsB p = true) : ∀ w ∈ lnsR p.rs ++ lnsH p.ts, (10 : UInt8) ∉ w := by
 obtain ⟨h1, h2⟩ := ls_parts h
 intro w hw hb
 rcases List.mem_append.1 hw with hw | hw
 ·obtain ⟨r, _, rfl⟩ := List.mem_map.1 hw
  exact lnR_cln _ hb rfl
 ·obtain ⟨t, ht, hw⟩ := List.mem_flatMap.1 hw
  rcases List.mem_cons.1 hw with rfl | hw
  ·revert hb; decide
  ·obtain ⟨x, hx, rfl⟩ := List.mem_map.1 hw
   exact lnI_cln (h2 t ht x hx) _ hb rfl
theorem idx_no {c : UInt8} : ∀ p : List UInt8, c ∉ p → Lib.index p [c] = -1
 | [], _ => rfl
 | b :: l, h => by
  rw [List.mem_cons, not_or] at h
  unfold Lib.index
  rw [if_neg (by simp [List.isPrefixOf]; exact h.1), idx_no l h.2]
  rfl
theorem idx_at {c : UInt8} {q : List UInt8} : ∀ p : List UInt8, c ∉ p → Lib.index (p ++ c :: q) [c] = (p.length : Int)
 | [], _ => by
  show Lib.index (c :: q) [c] = 0
  unfold Lib.index
  rw [if_pos (by simp [List.isPrefixOf])]
 | b :: l, h => by
  rw [List.mem_cons, not_or] at h
  show Lib.index (b :: (l ++ c :: q)) [c] = _
  unfold Lib.index
  rw [if_neg (by simp [List.isPrefixOf]; exact h.1), idx_at l h.2]
  have : ((l.length : Int) == -1) = false := by rw [beq_eq_false_iff_ne]; omega
  rw [this, if_neg (by decide), List.length_cons]
  omega
theorem split_words {c : UInt8} : ∀ ws : List (List UInt8), ws ≠ [] → (∀ w ∈ ws, c ∉ w) → Lib.count (joinW c ws) [c] = ws.length - 1 ∧ Lib.splitK [c] 0 (ws.length - 1) (joinW c ws) = ws
 | [], h, _ => absurd rfl h
 | [w], _, h => ⟨Lib.count_miss (idx_no w (h w List.mem_cons_self)), rfl⟩
 | w :: v :: ws, _, h => by
  have hw := h w List.mem_cons_self
  obtain ⟨i1, i2⟩ := split_words (v :: ws) (by simp) (fun u hu => h u (List.mem_cons_of_mem _ hu))
  have hi := idx_at (q := joinW c (v :: ws)) w hw
  have hd : (w ++ c :: joinW c (v :: ws)).drop (w.length + [c].length) = joinW c (v :: ws) := by
   rw [show w ++ c :: joinW c (v :: ws) = (w ++ [c]) ++ joinW c (v :: ws) by simp]
   exact List.drop_left' (by simp)
  constructor
  ·rw [joinW_cons, Lib.count_hit (by simp) hi, hd, i1]
   simp only [List.length_cons]; omega
  ·rw [joinW_cons]
   have e : (w :: v :: ws).length - 1 = ((v :: ws).length - 1) + 1 := by simp only [List.length_cons]; omega
   rw [e]
   unfold Lib.splitK
   have hne : (Lib.index (w ++ c :: joinW c (v :: ws)) [c] == -1) = false := by rw [hi, beq_eq_false_iff_ne]; omega
   rw [hne, if_neg (by decide), hi, Int.toNat_natCast, hd, i2]
   simp
theorem has_words (c : UInt8) : ∀ bs : List UInt8, ∃ ws, WordsOf c bs ws
 | [] => ⟨[[]], by simp, by simp, rfl⟩
 | b :: l => by
  obtain ⟨ws, h1, h2, h3⟩ := has_words c l
  cases ws with
  | nil => exact absurd rfl h1
  | cons w r =>
   by_cases hb : b = c
   ·subst hb
    exact ⟨[] :: w :: r, by simp, fun u hu => by
     rcases List.mem_cons.1 hu with rfl | hu
     ·simp
     ·exact h2 u hu, by rw [joinW_cons, h3]; rfl⟩
   ·refine ⟨(b :: w) :: r, by simp, fun u hu => ?_, ?_⟩
    ·rcases List.mem_cons.1 hu with rfl | hu
     ·rw [List.mem_cons, not_or]
      exact ⟨fun e => hb e.symm, h2 w List.mem_cons_self⟩
     ·exact h2 u (List.mem_cons_of_mem _ hu)
    ·rw [← h3]
     cases r with
     | nil => rfl
     | cons v r => rw [joinW_cons, joinW_cons]; rfl
theorem text_list (bs : List UInt8) : (textB bs).data.toList = bs := List.toList_toArray
theorem split10 (bs : List UInt8) (m : Int) (w : World) (hs : bs.length < 4294967281) (hm : w.cell? ⟨1, 0, none⟩ = some (.int .i64 m)) :
  Calls Tryz.prog 61 #[.string (textB bs), .string ⟨#[32]⟩] w fun e w' => ∃ ws, WordsOf 32 bs ws ∧ e = .returned (.slice (some ⟨w.heap.size, 0, none⟩) ws.length ws.length) ∧ w' = w.alloc (.cells (cellsW ws).toArray 9) := by
 obtain ⟨ws, hw⟩ := has_words 32 bs
 obtain ⟨h1, h2⟩ := split_words ws hw.ne hw.no
 rw [hw.join] at h1 h2
 have hc : Lib.countB (textB bs) ⟨#[32]⟩ = ws.length - 1 := by
  show Lib.count (textB bs).data.toList [32] = _
  rw [text_list]; exact h1
 have hl : 0 < ws.length := List.length_pos_iff.2 hw.ne
 have hd : (Lib.splitB ⟨#[32]⟩ 0 (ws.length - 1) (textB bs)).map Value.string = cellsW ws := by
  have h3 := Lib.splitB_data ⟨#[32]⟩ 0 (ws.length - 1) (textB bs)
  rw [text_list, show (⟨#[32]⟩ : ByteArray).data.toList = [32] from rfl, h2] at h3
  have e : cellsW ws = ((Lib.splitB ⟨#[32]⟩ 0 (ws.length - 1) (textB bs)).map (·.data.toList)).map (fun w => Value.string (textB w)) := by rw [h3]; rfl
  rw [e, List.map_map]
  refine List.map_congr_left fun b _ => ?_
  show Value.string b = .string (textB b.data.toList)
  refine congrArg Value.string ?_
  exact eq_of_data (text_list _).symm
 refine (Tryz.strings_Split (textB bs) ⟨#[32]⟩ m w (by rw [textB_size]; exact hs) hm (by decide)).mono ?_
 rintro e w' ⟨rfl, rfl⟩
 refine ⟨ws, hw, ?_, ?_⟩
 ·rw [hc, show ws.length - 1 + 1 = ws.length by omega]
 ·rw [hc, hd]
theorem cut10 (p q : List UInt8) (m : Int) (w : World) (hp : (10 : UInt8) ∉ p) (hs : (p ++ 10 :: q).length < 4294967281) (hm : w.cell? ⟨1, 0, none⟩ = some (.int .i64 m)) :
  Calls Tryz.prog 36 #[.string (textB (p ++ 10 :: q)), .string ⟨#[10]⟩] w fun e w' => e = .returned (.tuple #[.string (textB p), .string (textB q), .bool true]) ∧ ∃ n, w' = w.drewN n := by
 have hc : Lib.cut (textB (p ++ 10 :: q)).data.toList (⟨#[10]⟩ : ByteArray).data.toList = (p, q, true) := by
  rw [text_list, show (⟨#[10]⟩ : ByteArray).data.toList = [10] from rfl]
  unfold Lib.cut
  rw [idx_at p hp, if_pos (by omega), Int.toNat_natCast]
  refine Prod.ext (by simp) (Prod.ext ?_ rfl)
  rw [show p ++ 10 :: q = (p ++ [10]) ++ q by simp]
  exact List.drop_left' (by simp)
 refine (Tryz.strings_Cut (textB (p ++ 10 :: q)) ⟨#[10]⟩ m w (by rw [textB_size]; exact hs) hm).mono ?_
 rintro e w' ⟨rfl, hw⟩
 rw [hc]
 exact ⟨rfl, hw⟩
theorem cut10no (p : List UInt8) (m : Int) (w : World) (hp : (10 : UInt8) ∉ p) (hs : p.length < 4294967281) (hm : w.cell? ⟨1, 0, none⟩ = some (.int .i64 m)) :
  Calls Tryz.prog 36 #[.string (textB p), .string ⟨#[10]⟩] w fun e w' => e = .returned (.tuple #[.string (textB p), .string (textB []), .bool false]) ∧ ∃ n, w' = w.drewN n := by
 have hc : Lib.cut (textB p).data.toList (⟨#[10]⟩ : ByteArray).data.toList = (p, [], false) := by
  rw [text_list, show (⟨#[10]⟩ : ByteArray).data.toList = [10] from rfl]
  unfold Lib.cut
  rw [idx_no p hp, if_neg (by decide)]
 refine (Tryz.strings_Cut (textB p) ⟨#[10]⟩ m w (by rw [textB_size]; exact hs) hm).mono ?_
 rintro e w' ⟨rfl, hw⟩
 rw [hc]
 exact ⟨rfl, hw⟩
theorem ril_of_ok {r : Ri} (h : rilOk r = true) : rilB r = true := by
 obtain ⟨⟨c0, c1⟩, ⟨r0, r1⟩, hk⟩ := rilOk_parts h
 unfold rilB wB
 simp only [Bool.and_eq_true, decide_eq_true_eq]
 omega
theorem ls_iff {p : Pg} : lsB p = true ↔ p.rs.length ≤ 8 ∧ p.ts.length ≤ 8 ∧ (∀ r ∈ p.rs, rilOk r = true) ∧ ∀ t ∈ p.ts, t.length ≤ 256 ∧ ∀ x ∈ t, rightB x = true := by
 unfold lsB
 rw [Bool.and_eq_true, List.all_eq_true, enc_parts]
 exact ⟨fun ⟨⟨h1, h2, _, h4⟩, h5⟩ => ⟨h1, h2, h5, h4⟩, fun ⟨h1, h2, h3, h4⟩ => ⟨⟨h1, h2, fun r hr => ril_of_ok (h3 r hr), h4⟩, h3⟩⟩
theorem ad_sound {p p' : Pg} {bs w0 : List UInt8} {rs : List (List UInt8)} (hp : lsB p = true) (hw : WordsOf 32 bs (w0 :: rs)) (h : adS p w0 rs = (p', true)) : lsB p' = true ∧ prL p' = prL p ++ (bs ++ [10]) := by
 obtain ⟨a1, a2, a3, a4⟩ := ls_iff.1 hp
 obtain ⟨R, T⟩ := p
 simp only at a1 a2 a3 a4
 unfold adS at h
 by_cases h1 : w0 = quW ∨ w0 = caW
 ·rw [if_pos h1, Prod.mk.injEq] at h
  obtain ⟨rfl, h2⟩ := h
  simp only [Bool.and_eq_true, decide_eq_true_eq] at h2
  obtain ⟨hr, ht, hl⟩ := h2
  obtain ⟨b1, b2⟩ := (rr_line hw (rrR w0 rs).1).1 (Prod.ext rfl hr)
  obtain rfl : T = [] := List.eq_nil_of_length_eq_zero ht
  refine ⟨ls_iff.2 ⟨by simp; omega, by simp, fun r hr2 => ?_, fun t ht2 => by simp at ht2⟩, ?_⟩
  ·rcases List.mem_append.1 hr2 with hr2 | hr2
   ·exact a3 r hr2
   ·rw [List.mem_singleton.1 hr2]; exact b1
  ·rw [pr_ring, b2]
 ·rw [if_neg h1] at h
  by_cases h2 : w0 = thW
  ·rw [if_pos h2, Prod.mk.injEq] at h
   obtain ⟨rfl, h3⟩ := h
   simp only [Bool.and_eq_true, decide_eq_true_eq] at h3
   obtain rfl : rs = [] := List.eq_nil_of_length_eq_zero h3.1
   have hb : bs = thW := by rw [← hw.join, h2]; rfl
   refine ⟨ls_iff.2 ⟨a1, by simp; omega, a3, fun t ht => ?_⟩, ?_⟩
   ·rcases List.mem_append.1 ht with ht | ht
    ·exact a4 t ht
    ·rw [List.mem_singleton.1 ht]; exact ⟨by simp, fun x hx => by simp at hx⟩
   ·rw [hb]; exact pr_thread ⟨R, T⟩
  ·rw [if_neg h2] at h
   by_cases h3 : (rlR (w0 :: rs)).2 = true ∧ 0 < T.length
   ·rw [if_pos h3, Prod.mk.injEq] at h
    obtain ⟨rfl, h4⟩ := h
    obtain ⟨b1, b2⟩ := (rl_line hw (rlR (w0 :: rs)).1).1 (Prod.ext rfl h3.1)
    obtain ⟨T0, l, rfl⟩ : ∃ T0 l, T = T0 ++ [l] := by
     rcases List.eq_nil_or_concat T with rfl | ⟨T0, l, rfl⟩
     ·exact absurd h3.2 (by simp)
     ·exact ⟨T0, l, by rw [List.concat_eq_append]⟩
    rw [decide_eq_true_eq] at h4
    simp only [List.getLast?_append, List.getLast?_singleton, Option.some_or, Option.getD_some] at h4
    refine ⟨ls_iff.2 ⟨a1, by rw [putI_snoc]; simpa using a2, a3, fun t ht => ?_⟩, ?_⟩
    ·rw [putI_snoc] at ht
     rcases List.mem_append.1 ht with ht | ht
     ·exact a4 t (List.mem_append_left _ ht)
     ·rw [List.mem_singleton.1 ht]
      refine ⟨by simp; omega, fun x hx => ?_⟩
      rcases List.mem_append.1 hx with hx | hx
      ·exact (a4 l (by simp)).2 x hx
      ·rw [List.mem_singleton.1 hx]; exact b1
    ·rw [pr_instr, b2]
   ·rw [if_neg h3, Prod.mk.injEq] at h
    exact absurd h.2 (by decide)
theorem ad_ring {R : List Ri} {r : Ri} {w0 : List UInt8} {rs : List (List UInt8)} (hr : rilOk r = true) (hw : WordsOf 32 (lnR r) (w0 :: rs)) (hl : R.length + 1 ≤ 8) : adS ⟨R, []⟩ w0 rs = (⟨R ++ [r], []⟩, true) := by
 have h1 := (rr_line hw r).2 ⟨hr, rfl⟩
 have h2 : w0 = quW ∨ w0 = caW := by
  have e := words_eq hw (lnR_words r)
  unfold rgW at e
  split at e
  ·exact .inl (List.cons.inj e).1
  ·exact .inr (List.cons.inj e).1
 unfold adS
 rw [if_pos h2, h1]
 simp [hl]
theorem ad_thread {p : Pg} {w0 : List UInt8} {rs : List (List UInt8)} (hw : WordsOf 32 thW (w0 :: rs)) (hl : p.ts.length + 1 ≤ 8) : adS p w0 rs = (⟨p.rs, p.ts ++ [[]]⟩, true) := by
 obtain ⟨rfl, rfl⟩ := List.cons.inj (words_eq hw thW_words)
 unfold adS
 rw [if_neg (by decide), if_pos rfl]
 simp [hl]
theorem ad_instr {R : List Ri} {T : List (List In)} {l : List In} {x : In} {w0 : List UInt8} {rs : List (List UInt8)} (hx : rightB x = true) (hw : WordsOf 32 (lnI x) (w0 :: rs)) (hl : l.length + 1 ≤ 256) : adS ⟨R, T ++ [l]⟩ w0 rs = (⟨R, T ++ [l ++ [x]]⟩, true) := by
 have h1 := (rl_line hw x).2 ⟨hx, rfl⟩
 have e := (List.cons.inj (words_eq hw (lnI_words hx))).1
 obtain ⟨n1, n2, n3⟩ := nm_apart (right_op hx)
 rw [← e] at n1 n2 n3
 unfold adS
 rw [if_neg (fun h => h.elim n2 n3), if_neg n1, h1, if_pos ⟨rfl, by simp⟩, putI_snoc]
 simp [hl]
def rnE (l : List UInt8) : Nat := l.foldl (fun n b => (10 * n + (b.toNat + 208) % 256) % 18446744073709551616) 0
theorem rnE_push (l : List UInt8) (b : UInt8) : rnE (l ++ [b]) = (10 * rnE l + (b.toNat + 208) % 256) % 18446744073709551616 := by simp [rnE]
theorem rnE_lt (l : List UInt8) : rnE l < 18446744073709551616 := by
 rcases List.eq_nil_or_concat l with rfl | ⟨r, b, rfl⟩
 ·simp [rnE]
 ·rw [List.concat_eq_append, rnE_push]; exact Nat.mod_lt _ (by decide)
theorem rnE_val : ∀ (n : Nat) (l : List UInt8), l.length = n → (∀ b ∈ l, isDg b) → valD l < 18446744073709551616 → rnE l = valD l := by
 intro n
 induction n with
 | zero => intro l h _ _; rw [List.length_eq_zero_iff.1 h]; rfl
 | succ n ih =>
  intro l h hd hv
  rcases List.eq_nil_or_concat l with rfl | ⟨r, b, rfl⟩
  ·rfl
  ·rw [List.concat_eq_append] at *
   have hb := hd b (by simp)
   unfold isDg at hb
   rw [valD_push] at hv
   rw [rnE_push, valD_push, ih r (by simp at h; exact h) (fun c hc => hd c (by simp [hc])) (by omega)]
   omega
theorem rnE_dec {m : Nat} (h : m < 18446744073709551616) : rnE (decE m) = m := by
 rw [rnE_val _ _ rfl (decE_num h).2.1 (by rw [decE_val h]; exact h), decE_val h]
theorem cut_mid (bs : List UInt8) (a k : Nat) : (textB bs).extract a k = textB ((bs.drop a).take (k - a)) := by
 apply eq_of_data
 simp [textB]
structure RwS (bs : List UInt8) (at_ k : Nat) (ws : List (List UInt8)) : Prop where
 le : at_ ≤ k
 no : ∀ w ∈ ws, (32 : UInt8) ∉ w
 piece : (32 : UInt8) ∉ (bs.drop at_).take (k - at_)
 join : (ws = [] ∧ bs.drop at_ = bs) ∨ (ws ≠ [] ∧ joinW 32 ws ++ 32 :: bs.drop at_ = bs)
theorem RwS.start (bs : List UInt8) : RwS bs 0 0 [] := ⟨Nat.le_refl _, by simp, by simp, .inl ⟨rfl, rfl⟩⟩
theorem piece_next {bs : List UInt8} {a k : Nat} {c : UInt8} (ha : a ≤ k) (hc : bs[k]? = some c) : (bs.drop a).take (k + 1 - a) = (bs.drop a).take (k - a) ++ [c] := by
 rw [show k + 1 - a = (k - a) + 1 by omega, List.take_add_one, List.getElem?_drop, show a + (k - a) = k by omega, hc]; rfl
theorem RwS.other {bs : List UInt8} {a k : Nat} {ws : List (List UInt8)} {c : UInt8} (h : RwS bs a k ws) (hc : bs[k]? = some c) (hne : c ≠ 32) : RwS bs a (k + 1) ws := by
 refine ⟨Nat.le_succ_of_le h.le, h.no, ?_, h.join⟩
 rw [piece_next h.le hc, List.mem_append, List.mem_singleton]
 rintro (hm | hm)
 ·exact h.piece hm
 ·exact hne hm.symm
theorem RwS.word {bs : List UInt8} {a k : Nat} {ws : List (List UInt8)} (h : RwS bs a k ws) (hc : bs[k]? = some 32) : RwS bs (k + 1) (k + 1) (ws ++ [(bs.drop a).take (k - a)]) := by
 have hkl := (List.getElem?_eq_some_iff.1 hc).1
 have hd : bs.drop a = (bs.drop a).take (k - a) ++ 32 :: bs.drop (k + 1) := by
  have h1 := List.take_append_drop (k - a) (bs.drop a)
  rw [List.drop_drop, show a + (k - a) = k by have := h.le; omega, List.drop_eq_getElem_cons hkl, (List.getElem?_eq_some_iff.1 hc).2] at h1
  exact h1.symm
 refine ⟨Nat.le_refl _, fun w hw => ?_, by simp, ?_⟩
 ·rw [List.mem_append, List.mem_singleton] at hw
  rcases hw with hw | rfl
  ·exact h.no w hw
  ·exact h.piece
 ·refine .inr ?_
  have hj := h.join
  rw [hd] at hj
  exact words_next hj
theorem RwS.last {bs : List UInt8} {a : Nat} {ws : List (List UInt8)} (h : RwS bs a bs.length ws) : WordsOf 32 bs (ws ++ [(bs.drop a).take (bs.length - a)]) := by
 have hp := h.piece
 rw [List.take_of_length_le (by simp)] at hp ⊢
 exact words_last h.no hp h.join
theorem RwS.size {bs : List UInt8} {a k : Nat} {ws : List (List UInt8)} (h : RwS bs a k ws) : ws.length ≤ bs.length + 1 := by
 rcases h.join with ⟨h, _⟩ | ⟨_, h⟩
 ·rw [h]; simp
 ·have h1 := joinW_ge (c := 32) ws
  have h2 := congrArg List.length h
  simp only [List.length_append, List.length_cons] at h2
  omega
set_option maxHeartbeats 8000000 in
set_option maxRecDepth 100000 in
theorem rfValue10 (bs : List UInt8) (w : World) (hbs : bs.length ≤ 140737488355328) :
  Calls Tryz.prog 66 #[.string (textB bs)] w fun e w' => e = .returned (.int .u64 ((rnE bs : Nat) : Int)) ∧ w = w' := by
 have HSZ : Hid ((textB bs).size = bs.length) := textB_size bs
 go_enter Tryz.func66, Tryz.ntmps66
 go_wp2_with fail
 go_loopw [3, 4] (fun u i wr => ∃ (k : Nat) (S : Int), k ≤ bs.length ∧ i = .int .i64 k ∧ u = .int .u64 S ∧ Hid (((rnE (bs.take k) : Nat) : Int) = S) ∧ 0 ≤ S ∧ S ≤ 18446744073709551615 ∧ wr = w) (fun _ i _ => bs.length - (intOf i).toNat)
 case atStart => exact ⟨0, 0, by omega, rfl, rfl, (by show _ = _; simp [rnE]), by omega, by omega, rfl⟩
 case round =>
  obtain ⟨k, S, hk, rfl, rfl, HS, hs0, hs1, rfl⟩ := hrel
  by_cases hlt : k < bs.length
  ·obtain ⟨c2, hc2⟩ : ∃ c2, bs[k]? = some c2 := ⟨_, List.getElem?_eq_getElem hlt⟩
   have hki2 : (k : Int) < ((textB bs).size : Int) := by rw [HSZ.out]; omega
   have hx0 := text_get hc2 (by rw [HSZ.out]; exact hlt)
   have hxl := c2.toNat_lt
   have HNX : Hid (bs.take (k + 1) = bs.take k ++ [c2]) := by show _ = _; rw [List.take_add_one, hc2]; rfl
   have HVN : Hid (rnE (bs.take (k + 1)) = (10 * rnE (bs.take k) + (c2.toNat + 208) % 256) % 18446744073709551616) := by show _ = _; rw [HNX.out, rnE_push]
   clear hc2 HNX
   obtain ⟨x, hx⟩ : ∃ x, c2.toNat = x := ⟨_, rfl⟩
   rw [hx] at hx0 hxl HVN
   clear hx
   obtain ⟨D, hD⟩ : ∃ D : Int, IntKind.u8.wrap ((x : Int) - 48) = D := ⟨_, rfl⟩
   obtain ⟨T, hT⟩ : ∃ T : Int, IntKind.u64.wrap (10 * S) = T := ⟨_, rfl⟩
   obtain ⟨V, hV⟩ : ∃ V : Int, IntKind.u64.wrap (T + D) = V := ⟨_, rfl⟩
   have hD0 : 0 ≤ D ∧ D ≤ 255 := by rw [← hD, IntKind.wrap_u8]; omega
   have hwD : IntKind.u64.wrap D = D := by rw [IntKind.wrap_u64]; omega
   have hV0 : 0 ≤ V ∧ V ≤ 18446744073709551615 := by rw [← hV, IntKind.wrap_u64]; omega
   have HVI : Hid (((rnE (bs.take (k + 1)) : Nat) : Int) = V) := by
    have h1 := HS.out
    have h2 := hD
    have h3 := hT
    have h4 := hV
    rw [IntKind.wrap_u8] at h2
    rw [IntKind.wrap_u64] at h3 h4
    show _ = _
    rw [HVN.out]; omega
   clear HVN HS
   obtain ⟨hV1, hV2⟩ := hV0
   obtain ⟨hD1, hD2⟩ := hD0
   go_wp2
   go_roundw
   case rel => exact ⟨k + 1, V, by omega, by go_num, rfl, HVI, hV1, hV2, trivial⟩
   case measure => simp [intOf]; omega
  ·obtain rfl : k = bs.length := by omega
   have HF : Hid (((rnE bs : Nat) : Int) = S) := by
    have := HS.out
    rwa [List.take_length] at this
   go_wp2
   go_ret
   exact ⟨ret_int HF.out.symm, rfl⟩
set_option maxHeartbeats 16000000 in
set_option maxRecDepth 100000 in
theorem rfWords10 (bs : List UInt8) (w : World) (hbs : bs.length ≤ 8796093022000) :
  Calls Tryz.prog 64 #[.string (textB bs)] w (SpPost bs w) := by
 have HSZ : Hid ((textB bs).size = bs.length) := textB_size bs
 have HB := Lib.hid (Below.refl w.heap.size w)
 go_enter Tryz.func64, Tryz.ntmps64
 go_wp2_with fail
 have HST := Lib.hid (RwS.start bs)
 go_loopw [3, 4, 5] (fun v a i wr => ∃ (at_ k : Nat) (ws : List (List UInt8)), a = .int .i64 at_ ∧ i = .int .i64 k ∧ k ≤ bs.length + 1 ∧ at_ ≤ bs.length + 1 ∧ Hid (k = bs.length + 1 → WordsOf 32 bs ws) ∧ Hid (k ≤ bs.length → RwS bs at_ k ws) ∧ Hid (wr.ownsRow w.heap.size 9 1 v ws.length (cellsW ws)) ∧ Hid (Below w.heap.size w wr)) (fun _ _ i _ => bs.length + 1 - (intOf i).toNat)
 case atStart => exact ⟨0, 0, [], rfl, rfl, by omega, by omega, (fun h => by omega), (fun _ => HST.out), World.ownsRow_nil _ _ _ _, HB⟩
 case round =>
  clear HB HST
  obtain ⟨at_, k, ws, rfl, rfl, hk, hat, HA, HR, HO, HB⟩ := hrel
  obtain ⟨A9, c9, rfl⟩ := own_sliceD HO.out
  have hz := HB.out.size
  by_cases hkl : k ≤ bs.length
  ·have HR2 := Lib.hid (HR.out hkl)
   have hak := HR2.out.le
   have hwl := HR2.out.size
   clear HA HR
   have hkI : (k : Int) ≤ ((textB bs).size : Int) := by rw [HSZ.out]; omega
   have HMID := Lib.hid (cut_mid bs at_ k)
   obtain ⟨p, hp⟩ : ∃ p, (bs.drop at_).take (k - at_) = p := ⟨_, rfl⟩
   have HP := Lib.hid hp
   rw [hp] at HMID
   clear hp
   by_cases hke : k = bs.length
   ·have e1 : ((k : Int) == ((textB bs).size : Int)) = true := by rw [beq_iff_eq, HSZ.out]; omega
    have HW : Hid (WordsOf 32 bs (ws ++ [p])) := by
     have hh := HR2.out
     subst hke
     have := hh.last
     rwa [HP.out] at this
    clear hke
    go_wp2_with (at_builtin; refine append_one _ (.string ((textB bs).extract at_ k)) rfl (.tmp 22) (.tmp 27) 52 rfl w.heap.size 9 _ _ Tryz.underlying52 Tryz.infoStr9 rfl rfl _ _ _ rfl HO.out rfl (by unfold maxLen; omega) (by omega) hz ?_)
    intro v3 w3 ho hb hgr
    rw [HMID.out, cellsW_push] at ho
    have HO3 : Hid (w3.ownsRow w.heap.size 9 1 v3 (ws ++ [p]).length (cellsW (ws ++ [p]))) := by
     show World.ownsRow _ _ _ _ _ _ _
     rw [List.length_append]; exact ho
    have HB3 := Lib.hid (HB.out.trans hb)
    have HA3 : Hid (k + 1 = bs.length + 1 → WordsOf 32 bs (ws ++ [p])) := fun _ => HW.out
    have HR3 : Hid (k + 1 ≤ bs.length → RwS bs (k + 1) (k + 1) (ws ++ [p])) := fun h => by
     exfalso
     have := of_decide_eq_true e1; rw [HSZ.out] at this; omega
    obtain ⟨A9, c9, rfl⟩ := own_sliceD ho
    clear ho hb hgr HO HB e1
    go_wp2
    go_roundw
    case rel => exact ⟨k + 1, k + 1, ws ++ [p], by go_num, by go_num, by omega, by omega, HA3, HR3, HO3, HB3⟩
    case measure => simp [intOf]; omega
   ·obtain ⟨c2, hc2⟩ : ∃ c2, bs[k]? = some c2 := ⟨_, List.getElem?_eq_getElem (by omega)⟩
    have e1 : ((k : Int) == ((textB bs).size : Int)) = false := by rw [beq_eq_false_iff_ne, HSZ.out]; omega
    have hki2 : (k : Int) < ((textB bs).size : Int) := by rw [HSZ.out]; omega
    have hx0 := text_get hc2 (by rw [HSZ.out]; omega)
    by_cases h32 : c2 = 32
    ·subst h32
     have HW := Lib.hid (HR2.out.word hc2)
     rw [HP.out] at HW
     have hx0 : ((textB bs)[k]'(by rw [HSZ.out]; omega)).toNat = 32 := hx0
     clear hc2
     go_wp2_with (at_builtin; refine append_one _ (.string ((textB bs).extract at_ k)) rfl (.tmp 22) (.tmp 27) 52 rfl w.heap.size 9 _ _ Tryz.underlying52 Tryz.infoStr9 rfl rfl _ _ _ rfl HO.out rfl (by unfold maxLen; omega) (by omega) hz ?_)
     intro v3 w3 ho hb hgr
     rw [HMID.out, cellsW_push] at ho
     have HO3 : Hid (w3.ownsRow w.heap.size 9 1 v3 (ws ++ [p]).length (cellsW (ws ++ [p]))) := by
      show World.ownsRow _ _ _ _ _ _ _
      rw [List.length_append]; exact ho
     have HB3 := Lib.hid (HB.out.trans hb)
     obtain ⟨A9, c9, rfl⟩ := own_sliceD ho
     clear ho hb hgr HO HB e1 hx0
     go_wp2
     go_roundw
     case rel => exact ⟨k + 1, k + 1, ws ++ [p], by go_num, by go_num, by omega, by omega, (fun h => by omega), (fun _ => HW.out), HO3, HB3⟩
     case measure => simp [intOf]; omega
    ·have HW := Lib.hid (HR2.out.other hc2 h32)
     obtain ⟨x, hx⟩ : ∃ x, c2.toNat = x := ⟨_, rfl⟩
     have hxne : x ≠ 32 := fun e => h32 (UInt8.toNat_inj.1 (by rw [hx, e]; rfl))
     rw [hx] at hx0
     have e2 : ((x : Int) == (32 : Int)) = false := by rw [beq_eq_false_iff_ne]; omega
     have e3 : (x == 32) = false := by rw [beq_eq_false_iff_ne]; exact hxne
     clear hc2 h32 hx hxne
     go_wp2
     go_roundw
     case rel => exact ⟨at_, k + 1, ws, rfl, by go_num, by omega, by omega, (fun h => by omega), (fun _ => HW.out), HO, HB⟩
     case measure => simp [intOf]; omega
  ·obtain rfl : k = bs.length + 1 := by omega
   have HW := Lib.hid (HA.out rfl)
   have e5 : ¬ ((bs.length + 1 : Nat) : Int) ≤ ((textB bs).size : Int) := by rw [HSZ.out]; omega
   go_wp2
   go_ret
   exact ⟨_, _, rfl, HW.out, HO.out, HB.out⟩
def sm10 (bs : List UInt8) (k : Nat) : Nat := if bs.length < k then 1000 else min (rnE (bs.drop k)) 1000
set_option maxHeartbeats 8000000 in
set_option maxRecDepth 100000 in
theorem rfSmall10 (bs : List UInt8) (k : Nat) (w : World) (hbs : bs.length ≤ 140737488355328) (hk : k ≤ 1) :
  Calls Tryz.prog 65 #[.string (textB bs), .int .i64 (k : Int)] w fun e w' => e = .returned (.int .i64 ((sm10 bs k : Nat) : Int)) ∧ w = w' := by
 have hz := textB_size bs
 have htl := @cut_drop bs k
 have HV := Lib.hid (rfValue10 (bs.drop k) w (by rw [List.length_drop]; omega))
 obtain ⟨V, hV⟩ : ∃ V, V = rnE (bs.drop k) := ⟨_, rfl⟩
 have HE : Hid (sm10 bs k = if bs.length < k then 1000 else min V 1000) := by rw [hV]; rfl
 have hvl := rnE_lt (bs.drop k)
 rw [← hV] at HV hvl
 obtain ⟨T, hT⟩ : ∃ T, T = textB bs := ⟨_, rfl⟩
 rw [← hT] at hz htl ⊢
 clear hT hV
 have HTL := Lib.hid htl
 clear htl
 obtain ⟨n, hn⟩ : ∃ n, n = bs.length := ⟨_, rfl⟩
 rw [← hn] at hz HTL HE hbs
 clear hn
 by_cases h : n < k
 ·have e1 : decide ((n : Int) < (k : Int)) = true := decide_eq_true (by omega)
  have HX : Hid (sm10 bs k = 1000) := HE.out.trans (if_pos h)
  go_enter Tryz.func65, Tryz.ntmps65
  go_wp2
  go_ret
  exact ⟨by rw [HX.out]; rfl, rfl⟩
 ·have e1 : decide ((n : Int) < (k : Int)) = false := decide_eq_false (by omega)
  have h2 : ¬ ((n : Int) < (k : Int)) := by omega
  have h3 : (k : Int) ≤ (n : Int) := by omega
  have HX : Hid (sm10 bs k = min V 1000) := HE.out.trans (if_neg h)
  go_enter Tryz.func65, Tryz.ntmps65
  go_wp2_with fail
  rw [HTL.out]
  refine HV.out.mono ?_
  rintro e w2 ⟨rfl, rfl⟩
  go_wp2_with fail
  go_ret
  exact ⟨ret_int (show min (V : Int) 1000 = ((sm10 bs k : Nat) : Int) by rw [HX.out]; omega), rfl⟩
theorem sm10_dec {n : Nat} (h : n < 1000) : sm10 (decE n) 0 = n := by
 unfold sm10
 rw [if_neg (by omega), List.drop_zero, rnE_dec (by omega)]
 omega
theorem sm10_reg {n : Nat} (h : n < 1000) (b : UInt8) : sm10 (b :: decE n) 1 = n := by
 unfold sm10
 rw [if_neg (by simp), List.drop_succ_cons, List.drop_zero, rnE_dec (by omega)]
 omega
def rfrX : List (List UInt8) → Ri
 | [_, a] => ⟨1, ((sm10 a 0 : Nat) : Int), 1⟩
 | [_, a, b] => ⟨2, ((sm10 a 0 : Nat) : Int), ((sm10 b 0 : Nat) : Int)⟩
 | _ => ri0
def rfrB (bs : List UInt8) (ws : List (List UInt8)) : Bool := !bs.isEmpty && decide (lnrT (rfrX ws) = textB bs)
theorem rfr_sound {bs : List UInt8} {ws : List (List UInt8)} (h : rfrB bs ws = true) : rilOk (rfrX ws) = true ∧ lnR (rfrX ws) = bs := by
 unfold rfrB at h
 rw [Bool.and_eq_true, decide_eq_true_eq] at h
 obtain ⟨h1, h2⟩ := h
 unfold lnrT at h2
 by_cases hr : rilOk (rfrX ws) = true
 ·rw [if_pos hr] at h2
  exact ⟨hr, text_inj h2⟩
 ·rw [if_neg hr] at h2
  have : bs = [] := (text_inj (a := []) (b := bs) h2).symm
  rw [this] at h1
  exact absurd h1 (by decide)
theorem rfr_complete {bs : List UInt8} {ws : List (List UInt8)} (hw : WordsOf 32 bs ws) {r : Ri} (hr : rilOk r = true) (hl : lnR r = bs) : rfrX ws = r ∧ rfrB bs ws = true := by
 subst hl
 obtain rfl := words_eq hw (lnR_words r)
 obtain ⟨⟨c0, c1⟩, ⟨r0, r1⟩, hk⟩ := rilOk_parts hr
 have hx : rfrX (rgW r) = r := by
  obtain ⟨k, c, rd⟩ := r
  simp only at c0 c1 r0 r1 hk
  obtain ⟨n, rfl⟩ : ∃ n : Nat, c = (n : Int) := ⟨c.toNat, by omega⟩
  obtain ⟨m, rfl⟩ : ∃ n : Nat, rd = (n : Int) := ⟨rd.toNat, by omega⟩
  rcases hk with ⟨rfl, hm⟩ | rfl
  ·obtain rfl : m = 1 := by omega
   unfold rgW
   rw [if_pos rfl]
   show (⟨1, ((sm10 (decE n) 0 : Nat) : Int), 1⟩ : Ri) = _
   rw [sm10_dec (by omega)]; rfl
  ·unfold rgW
   rw [if_neg (show ¬ (2 : Int) = 1 by decide)]
   show (⟨2, ((sm10 (decE n) 0 : Nat) : Int), ((sm10 (decE m) 0 : Nat) : Int)⟩ : Ri) = _
   rw [sm10_dec (by omega), sm10_dec (by omega)]
 refine ⟨hx, ?_⟩
 unfold rfrB
 rw [hx, Bool.and_eq_true, decide_eq_true_eq]
 refine ⟨?_, if_pos hr⟩
 unfold lnR
 split <;> rfl
theorem rings_agree {bs w0 : List UInt8} {rs : List (List UInt8)} (hw : WordsOf 32 bs (w0 :: rs)) : rfrB bs (w0 :: rs) = (rrR w0 rs).2 ∧ (rfrB bs (w0 :: rs) = true → rfrX (w0 :: rs) = (rrR w0 rs).1) := by
 cases hb : rfrB bs (w0 :: rs) with
 | true =>
  obtain ⟨h1, h2⟩ := rfr_sound hb
  rw [(rr_line hw _).2 ⟨h1, h2⟩]
  exact ⟨rfl, fun _ => rfl⟩
 | false =>
  refine ⟨?_, fun h => absurd h (by decide)⟩
  cases hr : (rrR w0 rs).2 with
  | false => rfl
  | true =>
   obtain ⟨h1, h2⟩ := (rr_line hw (rrR w0 rs).1).1 (Prod.ext rfl hr)
   rw [(rfr_complete hw h1 h2).2] at hb
   exact absurd hb (by decide)
def rdD (x : In) (o : Nat) (b : List UInt8) : In :=
 if o = 65 then { x with a := ((sm10 b 1 : Nat) : Int) } else if o = 66 then { x with b := ((sm10 b 1 : Nat) : Int) } else if o = 82 then { x with c := ((sm10 b 1 : Nat) : Int) } else
 if o = 67 then { x with c := ((sm10 b 0 : Nat) : Int) } else if o = 68 then { x with d := if b = moW 0 then 0 else if b = moW 1 then 1 else if b = moW 2 then 2 else 3 } else { x with k := rnE b }
def rdDs : List Nat → List (List UInt8) → In → In
 | o :: L, b :: bs, x => rdDs L bs (rdD x o b)
 | _, _, x => x
theorem rdD_wr {x y : In} {o : Nat} (ho : o = 65 ∨ o = 66 ∨ o = 82 ∨ o = 67 ∨ o = 68 ∨ o = 75) (hy : InIn y) : rdD x o (wrO y o) = upd x y o := by
 obtain ⟨_, h1, h2, h3, h4, h5⟩ := hy
 rcases ho with rfl | rfl | rfl | rfl | rfl | rfl
 ·show { x with a := ((sm10 (114 :: decE y.a.toNat) 1 : Nat) : Int) } = { x with a := y.a }
  rw [sm10_reg (by omega), Int.toNat_of_nonneg h1.1]
 ·show { x with b := ((sm10 (114 :: decE y.b.toNat) 1 : Nat) : Int) } = { x with b := y.b }
  rw [sm10_reg (by omega), Int.toNat_of_nonneg h2.1]
 ·show { x with c := ((sm10 (114 :: decE y.c.toNat) 1 : Nat) : Int) } = { x with c := y.c }
  rw [sm10_reg (by omega), Int.toNat_of_nonneg h3.1]
 ·show { x with c := ((sm10 (decE y.c.toNat) 0 : Nat) : Int) } = { x with c := y.c }
  rw [sm10_dec (by omega), Int.toNat_of_nonneg h3.1]
 ·show ({ x with d := if wtB y.d = moW 0 then 0 else if wtB y.d = moW 1 then 1 else if wtB y.d = moW 2 then 2 else 3 } : In) = { x with d := y.d }
  rcases (show y.d = 0 ∨ y.d = 1 ∨ y.d = 2 by omega) with e | e | e
  all_goals rw [e]; rfl
 ·show { x with k := rnE (decE y.k) } = { x with k := y.k }
  rw [rnE_dec h5]
theorem rdDs_wr {y : In} (hy : InIn y) : ∀ (L : List Nat) (x : In), (∀ o ∈ L, o = 65 ∨ o = 66 ∨ o = 82 ∨ o = 67 ∨ o = 68 ∨ o = 75) → rdDs L (L.map (wrO y)) x = updTen x y L
 | [], x, _ => rfl
 | o :: L, x, h => by
  show rdDs L (L.map (wrO y)) (rdD x o (wrO y o)) = _
  rw [rdD_wr (h o List.mem_cons_self) hy]
  exact rdDs_wr hy L _ (fun o' h' => h o' (List.mem_cons_of_mem _ h'))
def rfiX (op : Nat) (ws : List (List UInt8)) : In := rdDs (odL (op : Int)) ws.tail ⟨(op : Int), 0, 0, 0, 0, 0⟩
def rfiB (bs : List UInt8) (op : Nat) (ws : List (List UInt8)) : Bool := decide (op ≠ 0 ∧ ws.length = 1 + (odL (op : Int)).length) && (rightB (rfiX op ws) && decide (lnI (rfiX op ws) = bs))
theorem fdN_line {x : In} (h : rightB x = true) : ((fdN (textB (nmT x.op)) : Nat) : Int) = x.op := by
 have hi := right_in10 h
 obtain ⟨n, hn⟩ : ∃ n : Nat, x.op = (n : Int) := ⟨x.op.toNat, by omega⟩
 rw [← nm_text, hn, nmB_nat (by omega) (by omega), fdN_nm n (by omega) (by omega)]
theorem instrs_agree {bs w0 : List UInt8} {rs : List (List UInt8)} (hw : WordsOf 32 bs (w0 :: rs)) : rfiB bs (fdN (textB w0)) (w0 :: rs) = (rlR (w0 :: rs)).2 ∧ (rfiB bs (fdN (textB w0)) (w0 :: rs) = true → rfiX (fdN (textB w0)) (w0 :: rs) = (rlR (w0 :: rs)).1) := by
 cases hb : rfiB bs (fdN (textB w0)) (w0 :: rs) with
 | true =>
  have hb2 := hb
  unfold rfiB at hb2
  simp only [Bool.and_eq_true, decide_eq_true_eq] at hb2
  rw [(rl_line hw _).2 hb2.2]
  exact ⟨rfl, fun _ => rfl⟩
 | false =>
  refine ⟨?_, fun h => absurd h (by decide)⟩
  cases hr : (rlR (w0 :: rs)).2 with
  | false => rfl
  | true =>
   exfalso
   obtain ⟨h1, h2⟩ := rlR_ok (x := (rlR (w0 :: rs)).1) (Prod.ext rfl hr)
   obtain ⟨h3, h4⟩ := (rl_line hw (rlR (w0 :: rs)).1).1 (Prod.ext rfl hr)
   generalize (rlR (w0 :: rs)).1 = x at *
   obtain ⟨e1, e2⟩ := List.cons.inj h2
   have hf := fdN_line h1
   rw [← e1] at hf
   have hi := right_in10 h1
   have hX : rfiX (fdN (textB w0)) (w0 :: rs) = x := by
    unfold rfiX
    rw [List.tail_cons, hf, e2, rdDs_wr hi _ _ (odL_mem x.op), upd_right h1]
   have : rfiB bs (fdN (textB w0)) (w0 :: rs) = true := by
    unfold rfiB
    simp only [Bool.and_eq_true, decide_eq_true_eq]
    rw [hX, hf]
    refine ⟨⟨by omega, ?_⟩, h3, h4⟩
    rw [e2, List.length_cons, List.length_map]; omega
   rw [this] at hb
   exact absurd hb (by decide)
noncomputable def dcS (p : Pg) (bs w0 : List UInt8) (rs : List (List UInt8)) : Pg × Bool :=
 if rfrB bs (w0 :: rs) = true ∧ p.ts.length = 0 ∧ p.rs.length < 8 then (⟨p.rs ++ [rfrX (w0 :: rs)], p.ts⟩, true)
 else if bs = thW ∧ p.ts.length < 8 then (⟨p.rs, p.ts ++ [[]]⟩, true)
 else if rfiB bs (fdN (textB w0)) (w0 :: rs) = true ∧ 0 < p.ts.length ∧ (p.ts.getLast?.getD []).length < 256 then (⟨p.rs, putI p.ts (rfiX (fdN (textB w0)) (w0 :: rs))⟩, true)
 else (p, false)
theorem rr_word {w0 : List UInt8} {rs : List (List UInt8)} (h : (rrR w0 rs).2 = true) : w0 = quW ∨ w0 = caW := by
 obtain ⟨_, h2⟩ := rrR_sound (r := (rrR w0 rs).1) (Prod.ext rfl h)
 unfold rgW at h2
 split at h2
 ·exact .inl (List.cons.inj h2).1.symm
 ·exact .inr (List.cons.inj h2).1.symm
theorem rl_word {w0 : List UInt8} {rs : List (List UInt8)} (h : (rlR (w0 :: rs)).2 = true) : w0 ≠ thW ∧ w0 ≠ quW ∧ w0 ≠ caW := by
 obtain ⟨h1, h2⟩ := rlR_ok (x := (rlR (w0 :: rs)).1) (Prod.ext rfl h)
 rw [(List.cons.inj h2).1]
 exact nm_apart (right_op h1)
theorem th_word {bs w0 : List UInt8} {rs : List (List UInt8)} (hw : WordsOf 32 bs (w0 :: rs)) : bs = thW ↔ w0 = thW ∧ rs = [] := by
 constructor
 ·rintro rfl
  exact List.cons.inj (words_eq hw thW_words)
 ·rintro ⟨rfl, rfl⟩
  exact hw.join.symm
theorem steps_agree (p : Pg) {bs w0 : List UInt8} {rs : List (List UInt8)} (hw : WordsOf 32 bs (w0 :: rs)) : (dcS p bs w0 rs).2 = (adS p w0 rs).2 ∧ ((adS p w0 rs).2 = true → (dcS p bs w0 rs).1 = (adS p w0 rs).1) := by
 obtain ⟨r1, r2⟩ := rings_agree hw
 obtain ⟨i1, i2⟩ := instrs_agree hw
 have ht := th_word hw
 unfold dcS adS
 by_cases h1 : w0 = quW ∨ w0 = caW
 ·have hnt : ¬ bs = thW := fun e => by
   have := (ht.1 e).1
   rcases h1 with h1 | h1 <;> (rw [h1] at this; exact absurd this (by decide))
  have hni : ¬ rfiB bs (fdN (textB w0)) (w0 :: rs) = true := fun e => by
   rw [i1] at e
   rcases h1 with h1 | h1
   ·exact (rl_word e).2.1 h1
   ·exact (rl_word e).2.2 h1
  rw [if_pos h1]
  by_cases h2 : rfrB bs (w0 :: rs) = true ∧ p.ts.length = 0 ∧ p.rs.length < 8
  ·rw [if_pos h2, r2 h2.1, ← r1, h2.1]
   refine ⟨?_, fun _ => rfl⟩
   rw [decide_eq_true h2.2.1, decide_eq_true (show p.rs.length + 1 ≤ 8 by omega)]; rfl
  ·rw [if_neg h2, if_neg (fun h => hnt h.1), if_neg (fun h => hni h.1)]
   have hf : ((rrR w0 rs).2 && (decide (p.ts.length = 0) && decide (p.rs.length + 1 ≤ 8))) = false := by
    rw [Bool.eq_false_iff]
    intro h
    simp only [Bool.and_eq_true, decide_eq_true_eq] at h
    exact h2 ⟨r1.trans h.1, h.2.1, by omega⟩
   exact ⟨hf.symm, fun h => by rw [show _ = false from hf] at h; exact absurd h Bool.false_ne_true⟩
 ·have hnr : ¬ rfrB bs (w0 :: rs) = true := fun e => h1 (rr_word (r1 ▸ e))
  rw [if_neg h1, if_neg (fun h => hnr h.1)]
  by_cases h2 : w0 = thW
  ·have hni : ¬ rfiB bs (fdN (textB w0)) (w0 :: rs) = true := fun e => (rl_word (i1 ▸ e)).1 h2
   rw [if_pos h2, if_neg (fun h => hni h.1 : ¬ (rfiB bs (fdN (textB w0)) (w0 :: rs) = true ∧ _))]
   by_cases h3 : bs = thW ∧ p.ts.length < 8
   ·rw [if_pos h3]
    have := (ht.1 h3.1).2
    refine ⟨?_, fun _ => rfl⟩
    rw [this, decide_eq_true (show ([] : List (List UInt8)).length = 0 from rfl), decide_eq_true (show p.ts.length + 1 ≤ 8 by omega)]; rfl
   ·rw [if_neg h3]
    have hf : (decide (rs.length = 0) && decide (p.ts.length + 1 ≤ 8)) = false := by
     rw [Bool.eq_false_iff]
     intro h
     simp only [Bool.and_eq_true, decide_eq_true_eq] at h
     exact h3 ⟨ht.2 ⟨h2, List.eq_nil_of_length_eq_zero h.1⟩, by omega⟩
    exact ⟨hf.symm, fun h => by rw [show _ = false from hf] at h; exact absurd h Bool.false_ne_true⟩
  ·have hnt : ¬ bs = thW := fun e => h2 (ht.1 e).1
   rw [if_neg h2, if_neg (fun h => hnt h.1)]
   by_cases h3 : (rlR (w0 :: rs)).2 = true ∧ 0 < p.ts.length
   ·rw [if_pos h3]
    by_cases h4 : (p.ts.getLast?.getD []).length < 256
    ·have h5 := i1.trans h3.1
     rw [if_pos ⟨h5, h3.2, h4⟩, i2 h5]
     exact ⟨(decide_eq_true (show _ ≤ 256 by omega)).symm, fun _ => rfl⟩
    ·rw [if_neg (fun h => h4 h.2.2)]
     have hf : decide ((p.ts.getLast?.getD []).length + 1 ≤ 256) = false := decide_eq_false (by omega)
     exact ⟨hf.symm, fun h => by rw [show _ = false from hf] at h; exact absurd h Bool.false_ne_true⟩
   ·rw [if_neg h3, if_neg (fun h => h3 ⟨i1 ▸ h.1, h.2.1⟩)]
    exact ⟨rfl, fun _ => rfl⟩
noncomputable def wdsL (bs : List UInt8) : List (List UInt8) := Classical.choose (has_words 32 bs)
theorem wdsL_of {bs : List UInt8} {ws : List (List UInt8)} (hw : WordsOf 32 bs ws) : wdsL bs = ws := words_eq (Classical.choose_spec (has_words 32 bs)) hw
noncomputable def adL (p : Pg) (bs : List UInt8) : Pg × Bool := adS p ((wdsL bs).headD []) (wdsL bs).tail
theorem adL_eq {p : Pg} {bs w0 : List UInt8} {rs : List (List UInt8)} (hw : WordsOf 32 bs (w0 :: rs)) : adL p bs = adS p w0 rs := by
 unfold adL
 rw [wdsL_of hw]; rfl
theorem wds_cons (bs : List UInt8) : ∃ w0 rs, WordsOf 32 bs (w0 :: rs) := by
 obtain ⟨ws, hw⟩ := has_words 32 bs
 cases ws with
 | nil => exact absurd rfl hw.ne
 | cons w0 rs => exact ⟨w0, rs, hw⟩
noncomputable def rdA : Pg → List (List UInt8) → Nat → Pg × Nat
 | p, [], n => (p, 0)
 | p, b :: l, n => if (adL p b).2 = true then rdA (adL p b).1 l (n + 1) else (⟨[], []⟩, n)
theorem rdA_step {p p' : Pg} {b : List UInt8} {l : List (List UInt8)} {n : Nat} (h : adL p b = (p', true)) : rdA p (b :: l) n = rdA p' l (n + 1) := by
 show (if (adL p b).2 = true then rdA (adL p b).1 l (n + 1) else _) = _
 rw [h, if_pos rfl]
theorem rdA_text : ∀ (l : List (List UInt8)) (p p' : Pg) (n : Nat), 0 < n → lsB p = true → rdA p l n = (p', 0) → lsB p' = true ∧ prL p' = prL p ++ lnsT l
 | [], p, p', n, _, hp, h => by
  have h' : (p, 0) = (p', 0) := h
  rw [Prod.mk.injEq] at h'
  obtain rfl := h'.1
  exact ⟨hp, by simp [lnsT]⟩
 | b :: l, p, p', n, hn, hp, h => by
  have h' : (if (adL p b).2 = true then rdA (adL p b).1 l (n + 1) else (⟨[], []⟩, n)) = (p', 0) := h
  by_cases ha : (adL p b).2 = true
  ·rw [if_pos ha] at h'
   obtain ⟨w0, rs, hw⟩ := wds_cons b
   obtain ⟨h1, h2⟩ := ad_sound (p' := (adL p b).1) hp hw (by rw [← adL_eq hw]; exact Prod.ext rfl ha)
   obtain ⟨h3, h4⟩ := rdA_text l _ p' (n + 1) (by omega) h1 h'
   refine ⟨h3, ?_⟩
   rw [h4, h2, lnsT_cons]
   simp
  ·rw [if_neg ha, Prod.mk.injEq] at h'
   omega
theorem rdA_rings : ∀ (S R : List Ri) (X : List (List UInt8)) (n : Nat), (∀ r ∈ S, rilOk r = true) → R.length + S.length ≤ 8 → rdA ⟨R, []⟩ (lnsR S ++ X) n = rdA ⟨R ++ S, []⟩ X (n + S.length)
 | [], R, X, n, _, _ => by simp [lnsR]
 | r :: S, R, X, n, h, hl => by
  obtain ⟨w0, rs, hw⟩ := wds_cons (lnR r)
  rw [List.length_cons] at hl
  have e := ad_ring (h r List.mem_cons_self) hw (R := R) (by omega)
  rw [← adL_eq hw] at e
  show rdA ⟨R, []⟩ (lnR r :: (lnsR S ++ X)) n = _
  rw [rdA_step e, rdA_rings S (R ++ [r]) X (n + 1) (fun z hz => h z (List.mem_cons_of_mem _ hz)) (by simp; omega)]
  rw [List.append_assoc, List.length_cons, show n + 1 + S.length = n + (S.length + 1) by omega]
  rfl
theorem rdA_body (R : List Ri) (T : List (List In)) : ∀ (t l : List In) (X : List (List UInt8)) (n : Nat), (∀ x ∈ t, rightB x = true) → l.length + t.length ≤ 256 → rdA ⟨R, T ++ [l]⟩ (t.map lnI ++ X) n = rdA ⟨R, T ++ [l ++ t]⟩ X (n + t.length)
 | [], l, X, n, _, _ => by simp
 | x :: t, l, X, n, h, hl => by
  obtain ⟨w0, rs, hw⟩ := wds_cons (lnI x)
  rw [List.length_cons] at hl
  have e := ad_instr (R := R) (T := T) (l := l) (h x List.mem_cons_self) hw (by omega)
  rw [← adL_eq hw] at e
  show rdA ⟨R, T ++ [l]⟩ (lnI x :: (t.map lnI ++ X)) n = _
  rw [rdA_step e, rdA_body R T t (l ++ [x]) X (n + 1) (fun z hz => h z (List.mem_cons_of_mem _ hz)) (by simp; omega)]
  rw [List.append_assoc, List.length_cons, show n + 1 + t.length = n + (t.length + 1) by omega]
  rfl
theorem rdA_threads (R : List Ri) : ∀ (S T : List (List In)) (n : Nat), (∀ t ∈ S, t.length ≤ 256 ∧ ∀ x ∈ t, rightB x = true) → T.length + S.length ≤ 8 → rdA ⟨R, T⟩ (lnsH S) n = (⟨R, T ++ S⟩, 0)
 | [], T, n, _, _ => by rw [List.append_nil]; rfl
 | t :: S, T, n, h, hl => by
  obtain ⟨w0, rs, hw⟩ := wds_cons thW
  rw [List.length_cons] at hl
  have e := ad_thread (p := ⟨R, T⟩) hw (show T.length + 1 ≤ 8 by omega)
  rw [← adL_eq hw] at e
  obtain ⟨h1, h2⟩ := h t List.mem_cons_self
  rw [lnsH_cons, rdA_step e]
  show rdA ⟨R, T ++ [[]]⟩ _ _ = _
  rw [rdA_body R T t [] (lnsH S) (n + 1) h2 (by simpa using h1), List.nil_append, rdA_threads R S (T ++ [t]) _ (fun z hz => h z (List.mem_cons_of_mem _ hz)) (by simp; omega), List.append_assoc]
  rfl
theorem rdA_own {p : Pg} (h : lsB p = true) : rdA ⟨[], []⟩ (lnsR p.rs ++ lnsH p.ts) 1 = (p, 0) := by
 obtain ⟨a1, a2, a3, a4⟩ := ls_iff.1 h
 rw [rdA_rings p.rs [] _ 1 a3 (by simpa using a1), List.nil_append, rdA_threads p.rs p.ts [] _ a4 (by simpa using a2), List.nil_append]
theorem word_le {c : UInt8} : ∀ (ws : List (List UInt8)) (b : List UInt8), b ∈ ws → b.length ≤ (joinW c ws).length
 | [], _, h => by cases h
 | [w], b, h => by
  rw [List.mem_singleton] at h
  subst h
  exact Nat.le_refl _
 | w :: v :: ws, b, h => by
  have e : (joinW c (w :: v :: ws)).length = w.length + ((joinW c (v :: ws)).length + 1) := by
   show (w ++ c :: joinW c (v :: ws)).length = _
   rw [List.length_append, List.length_cons]
  rw [e]
  rcases List.mem_cons.1 h with rfl | h
  ·omega
  ·have := word_le (c := c) (v :: ws) b h
   omega
theorem words_le {c : UInt8} {bs : List UInt8} {ws : List (List UInt8)} (h : WordsOf c bs ws) (hb : bs.length ≤ 9000000) : ∀ b ∈ ws, b.length ≤ 9000000 := by
 intro b hm
 have := word_le (c := c) ws b hm
 rw [h.join] at this
 omega
theorem words_short {c : UInt8} {bs : List UInt8} {ws : List (List UInt8)} (h : WordsOf c bs ws) (hb : bs.length ≤ 9000000) : ∀ b ∈ ws, b.length ≤ 140737488355328 := by
 intro b hm
 have := word_le (c := c) ws b hm
 rw [h.join] at this
 omega
structure BdT (B BL : Nat) (w : World) (vs : List Value) (ts : List (List In)) : Prop where
 n : vs.length = ts.length
 old : ∀ (i : Nat) (l : List In), i + 1 < ts.length → ts[i]? = some l → ∃ v, vs[i]? = some v ∧ w.ownsRow B 28 6 v l.length (rowsOf inF l) ∧ ∀ r, v.ownBlock = some r → r < BL
 last : ∀ (i : Nat) (l : List In), i + 1 = ts.length → ts[i]? = some l → ∃ v, vs[i]? = some v ∧ w.ownsRow BL 28 6 v l.length (rowsOf inF l)
structure BdAt (B : Nat) (w : World) (g : Nat) (vr vt : Value) (vs : List Value) (BL : Nat) (p : Pg) : Prop where
 box : Lies w g 25 #[vr, vt]
 hg : B ≤ g
 rr : w.ownsRow B 51 3 vr p.rs.length (rowsOf riF p.rs)
 tr : w.ownsRow B 47 1 vt p.ts.length vs
 th : BdT B BL w vs p.ts
 le : B ≤ BL ∧ BL ≤ w.heap.size
section
variable {B BL : Nat} {w w' q1 : World} {vs : List Value} {ts : List (List In)} {S : Nat → Prop} {g : Nat} {vr vt v : Value} {p : Pg}
theorem own_range {e : TypeId} {sz n : Nat} {xs : List Value} (h : w.ownsRow B e sz v n xs) {r : Nat} (hv : v.ownBlock = some r) : B ≤ r ∧ r < w.heap.size := ⟨(h.lt r hv).1, (h.lt r hv).2⟩
theorem own_type {e T : TypeId} {sz n : Nat} {xs : List Value} (h : w.ownsRow B e sz v n xs) {k : Nat} {cur : Array Value} (hl : Lies w k T cur) (hv : v.ownBlock = some k) : T = e := by
 rcases owns_row h with ⟨rfl, _⟩ | ⟨r, cap, c2, rfl, _, h2, _⟩
 ·cases hv
 ·obtain rfl : r = k := by simpa [Value.ownBlock] using hv
  exact (hl.same h2).1
theorem BdT.kept (h : BdT B BL w vs ts) (k : Kept S w w') (hs : ∀ r cur, Lies w r 28 cur → ¬ S r) : BdT B BL w' vs ts := by
 refine ⟨h.n, fun i l h1 h2 => ?_, fun i l h1 h2 => ?_⟩
 ·obtain ⟨v, e1, e2, e3⟩ := h.old i l h1 h2
  exact ⟨v, e1, owns_kept e2 k (fun r cur _ hl => hs r cur hl), e3⟩
 ·obtain ⟨v, e1, e2⟩ := h.last i l h1 h2
  exact ⟨v, e1, owns_kept e2 k (fun r cur _ hl => hs r cur hl)⟩
theorem BdAt.later (h : BdAt B w g vr vt vs BL p) (hb : Below w.heap.size w w') : BdAt B w' g vr vt vs BL p := by
 have k := Kept.of_below hb
 exact ⟨h.box.below hb h.box.lt, h.hg, owns_kept h.rr k (fun _ _ _ _ e => e), owns_kept h.tr k (fun _ _ _ _ e => e), h.th.kept k (fun _ _ _ e => e), h.le.1, Nat.le_trans h.le.2 hb.size⟩
theorem BdAt.empty {b0 : Nat} (hl : Lies w b0 25 #[.slice none 0 0, .slice none 0 0]) (hB : B ≤ b0) (hs : B ≤ w.heap.size) : BdAt B w b0 (.slice none 0 0) (.slice none 0 0) [] B ⟨[], []⟩ :=
 ⟨hl, hB, World.ownsRow_nil _ _ _ _, World.ownsRow_nil _ _ _ _, ⟨rfl, (fun i l _ h => by cases h), (fun i l _ h => by cases h)⟩, Nat.le_refl _, hs⟩
theorem below_grow {r o : Nat} {e : TypeId} {sz n : Nat} {xs : List Value} {u x : Value} (ho : w.ownsRow B e sz u n xs) (hB : B ≤ w.heap.size) (k : Kept (fun k => u.ownBlock = some k) w q1) (hr : B ≤ r) : Below B w (q1.setCell ⟨r, o, none⟩ x) :=
 (k.below hB (fun j hj e => by have := (own_range ho e).1; omega)).setCell (p := ⟨r, o, none⟩) hr x
theorem BdAt.ring (h : BdAt B w g vr vt vs BL p) (k : Kept (fun k => vr.ownBlock = some k) w q1) (r : Ri) (hn : q1.ownsRow B 51 3 v (p.rs.length + 1) (rowsOf riF (p.rs ++ [r]))) :
  BdAt B (q1.setCell ⟨g, 0, none⟩ v) g v vt vs BL ⟨p.rs ++ [r], p.ts⟩ ∧ Below B w (q1.setCell ⟨g, 0, none⟩ v) := by
 have no : ∀ {r e cur}, Lies w r e cur → e ≠ 51 → ¬ vr.ownBlock = some r := fun {r e cur} h1 h2 h3 => h2 (own_type h.rr h1 h3)
 have b1 := h.box.kept k (no h.box (by decide))
 have k2 := Kept.put q1 g 0 v
 have n2 : ∀ {r e cur}, Lies q1 r e cur → e ≠ 25 → ¬ oneRow g r := fun {r e cur} h1 h2 (h3 : r = g) => by subst h3; exact h2 (h1.same b1).1
 have t1 := owns_kept h.tr k (fun r cur _ h1 => no h1 (by decide))
 have s1 := h.th.kept k (fun r cur h1 => no h1 (by decide))
 refine ⟨⟨b1.put 0 v, h.hg, ?_, owns_kept t1 k2 (fun r cur _ h1 => n2 h1 (by decide)), s1.kept k2 (fun r cur h1 => n2 h1 (by decide)), h.le.1, ?_⟩, below_grow h.rr (Nat.le_trans h.le.1 h.le.2) k h.hg⟩
 ·rw [List.length_append]
  exact owns_kept hn k2 (fun r cur _ h1 => n2 h1 (by decide))
 ·exact Nat.le_trans h.le.2 (Nat.le_trans k.size k2.size)
theorem BdT.thread (h : BdT B BL w vs ts) (hB : B ≤ BL) : BdT B w.heap.size w (vs ++ [.slice none 0 0]) (ts ++ [[]]) := by
 have hn := h.n
 refine ⟨by simp [hn], fun i l h1 h2 => ?_, fun i l h1 h2 => ?_⟩
 ·rw [List.length_append, List.length_singleton] at h1
  have hi : i < ts.length := by omega
  rw [List.getElem?_append_left hi] at h2
  rw [List.getElem?_append_left (by omega)]
  by_cases e : i + 1 < ts.length
  ·obtain ⟨v, e1, e2, e3⟩ := h.old i l e h2
   exact ⟨v, e1, e2, fun r hr => (own_range e2 hr).2⟩
  ·obtain ⟨v, e1, e2⟩ := h.last i l (by omega) h2
   exact ⟨v, e1, owns_mono e2 hB, fun r hr => (own_range e2 hr).2⟩
 ·rw [List.length_append, List.length_singleton] at h1
  obtain rfl : i = ts.length := by omega
  rw [List.getElem?_append_right (Nat.le_refl _), Nat.sub_self] at h2
  rw [List.getElem?_append_right (by omega), hn, Nat.sub_self]
  have h2' : [] = l := by simpa using h2
  subst h2'
  exact ⟨_, rfl, World.ownsRow_nil _ _ _ _⟩
theorem BdAt.thread (h : BdAt B w g vr vt vs BL p) (k : Kept (fun k => vt.ownBlock = some k) w q1) (hn : q1.ownsRow B 47 1 v (p.ts.length + 1) (vs ++ [.slice none 0 0])) :
  BdAt B (q1.setCell ⟨g, 1, none⟩ v) g vr v (vs ++ [.slice none 0 0]) q1.heap.size ⟨p.rs, p.ts ++ [[]]⟩ ∧ Below B w (q1.setCell ⟨g, 1, none⟩ v) := by
 have no : ∀ {r e cur}, Lies w r e cur → e ≠ 47 → ¬ vt.ownBlock = some r := fun {r e cur} h1 h2 h3 => h2 (own_type h.tr h1 h3)
 have b1 := h.box.kept k (no h.box (by decide))
 have k2 := Kept.put q1 g 1 v
 have n2 : ∀ {r e cur}, Lies q1 r e cur → e ≠ 25 → ¬ oneRow g r := fun {r e cur} h1 h2 (h3 : r = g) => by subst h3; exact h2 (h1.same b1).1
 have t1 := owns_kept h.rr k (fun r cur _ h1 => no h1 (by decide))
 have s1 := h.th.kept k (fun r cur h1 => no h1 (by decide))
 refine ⟨⟨b1.put 1 v, h.hg, owns_kept t1 k2 (fun r cur _ h1 => n2 h1 (by decide)), ?_, (s1.thread h.le.1).kept k2 (fun r cur h1 => n2 h1 (by decide)), Nat.le_trans h.le.1 (Nat.le_trans h.le.2 k.size), k2.size⟩, below_grow h.tr (Nat.le_trans h.le.1 h.le.2) k h.hg⟩
 rw [List.length_append]
 exact owns_kept hn k2 (fun r cur _ h1 => n2 h1 (by decide))
theorem BdT.instr {T : List (List In)} {l : List In} {x : In} {u v' : Value} (h : BdT B BL w vs (T ++ [l])) (hu : vs[T.length]? = some u) (hB : B ≤ BL) (k : Kept (fun k => u.ownBlock = some k) w q1) (hn : q1.ownsRow BL 28 6 v' (l.length + 1) (rowsOf inF (l ++ [x]))) :
  BdT B BL q1 (vs.set T.length v') (T ++ [l ++ [x]]) := by
 have hlen := h.n
 rw [List.length_append, List.length_singleton] at hlen
 obtain ⟨u2, hu2, ho⟩ := h.last T.length l (by simp) (by rw [List.getElem?_append_right (Nat.le_refl _), Nat.sub_self]; rfl)
 obtain rfl : u = u2 := by rw [hu] at hu2; exact Option.some.inj hu2
 refine ⟨by simp [hlen], fun i l2 h1 h2 => ?_, fun i l2 h1 h2 => ?_⟩
 ·rw [List.length_append, List.length_singleton] at h1
  have hi : i < T.length := by omega
  rw [List.getElem?_append_left hi] at h2
  obtain ⟨v, e1, e2, e3⟩ := h.old i l2 (by rw [List.length_append, List.length_singleton]; omega) (by rw [List.getElem?_append_left hi]; exact h2)
  refine ⟨v, by rw [List.getElem?_set_ne (by omega)]; exact e1, owns_kept e2 k (fun r cur hr _ hr2 => ?_), e3⟩
  have := e3 r hr
  have := (own_range ho hr2).1
  omega
 ·rw [List.length_append, List.length_singleton] at h1
  obtain rfl : i = T.length := by omega
  rw [List.getElem?_append_right (Nat.le_refl _), Nat.sub_self] at h2
  have h2' : l ++ [x] = l2 := by simpa using h2
  subst h2'
  refine ⟨v', by rw [List.getElem?_set_self (by omega)], ?_⟩
  rw [List.length_append]
  exact hn
theorem BdAt.last_ {T : List (List In)} {l : List In} (h : BdAt B w g vr vt vs BL p) (hp : p.ts = T ++ [l]) : ∃ u rt cap, vs[T.length]? = some u ∧ w.ownsRow BL 28 6 u l.length (rowsOf inF l) ∧ vt = .slice (some ⟨rt, 0, none⟩) p.ts.length cap ∧ B ≤ rt ∧ p.ts.length ≤ cap ∧ cap ≤ maxLen ∧
  ∃ cur, Lies w rt 47 cur ∧ cur[T.length]? = some u := by
 have hl : p.ts.length = T.length + 1 := by rw [hp]; simp
 obtain ⟨u, hu, ho⟩ := h.th.last T.length l (by omega) (by rw [hp, List.getElem?_append_right (Nat.le_refl _), Nat.sub_self]; rfl)
 have htr := h.tr
 rcases owns_row htr with ⟨rfl, h0, _⟩ | ⟨r, cap, cur, rfl, hb, hh, h1, h2⟩
 ·omega
 ·exact ⟨u, r, cap, hu, ho, rfl, hb, h1, h2, cur, hh, by rw [← hh.cell]; exact owns_cell htr hu⟩
theorem BdAt.instr {T : List (List In)} {l : List In} {x : In} {u v' : Value} {rt n cap : Nat} (h : BdAt B w g vr (.slice (some ⟨rt, 0, none⟩) n cap) vs BL p) (hp : p.ts = T ++ [l]) (hu : vs[T.length]? = some u) (k : Kept (fun k => u.ownBlock = some k) w q1) (hn : q1.ownsRow BL 28 6 v' (l.length + 1) (rowsOf inF (l ++ [x]))) :
  BdAt B (q1.setCell ⟨rt, T.length, none⟩ v') g vr (.slice (some ⟨rt, 0, none⟩) n cap) (vs.set T.length v') BL ⟨p.rs, T ++ [l ++ [x]]⟩ ∧ Below B w (q1.setCell ⟨rt, T.length, none⟩ v') := by
 have hl : p.ts.length = T.length + 1 := by rw [hp]; simp
 obtain ⟨u2, hu2, ho⟩ := h.th.last T.length l (by omega) (by rw [hp, List.getElem?_append_right (Nat.le_refl _), Nat.sub_self]; rfl)
 obtain rfl : u = u2 := by rw [hu] at hu2; exact Option.some.inj hu2
 have no : ∀ {r e cur}, Lies w r e cur → e ≠ 28 → ¬ u.ownBlock = some r := fun {r e cur} h1 h2 h3 => h2 (own_type ho h1 h3)
 have b1 := h.box.kept k (no h.box (by decide))
 have r1 := owns_kept h.rr k (fun r cur _ h1 => no h1 (by decide))
 have t1 := owns_kept h.tr k (fun r cur _ h1 => no h1 (by decide))
 have hth := h.th
 rw [hp] at hth
 have s1 := hth.instr hu h.le.1 k hn
 have hnn : n = p.ts.length := by
  rcases owns_row t1 with ⟨e, _⟩ | ⟨r, c2, cur, e, _⟩
  ·cases e
  ·simp only [Value.slice.injEq] at e; exact e.2.1
 obtain ⟨cur, hrt⟩ : ∃ cur, Lies q1 rt 47 cur := by
  rcases owns_row t1 with ⟨e, _⟩ | ⟨r, c2, cur, e, _, h2, _⟩
  ·cases e
  ·simp only [Value.slice.injEq, Option.some.injEq, Addr.mk.injEq] at e
   obtain ⟨⟨rfl, _⟩, _⟩ := e
   exact ⟨cur, h2⟩
 have k2 := Kept.put q1 rt T.length v'
 have n2 : ∀ {r e cur}, Lies q1 r e cur → e ≠ 47 → ¬ oneRow rt r := fun {r e cur} h1 h2 (h3 : r = rt) => by subst h3; exact h2 (h1.same hrt).1
 subst hnn
 have t2 := owns_set (u := v') t1 (k := T.length) (by omega)
 refine ⟨⟨b1.kept k2 (n2 b1 (by decide)), h.hg, owns_kept r1 k2 (fun r cur _ h1 => n2 h1 (by decide)), ?_, s1.kept k2 (fun r cur h1 => n2 h1 (by decide)), h.le.1, Nat.le_trans h.le.2 (Nat.le_trans k.size k2.size)⟩, ?_⟩
 ·show World.ownsRow _ _ _ _ _ (T ++ [l ++ [x]]).length _
  rw [show (T ++ [l ++ [x]]).length = p.ts.length by simp [hl]]
  exact t2
 ·have hrt2 := (own_range h.tr (r := rt) rfl).1
  exact (k.below (Nat.le_trans h.le.1 h.le.2) (fun j hj e => by have := (own_range ho e).1; have := h.le.1; omega)).setCell (p := ⟨rt, T.length, none⟩) hrt2 v'
theorem BdAt.pg (h : BdAt B w g vr vt vs BL p) : ∃ A c Q d, vr = .slice A p.rs.length c ∧ vt = .slice Q p.ts.length d ∧ PgAt w A c Q d p := by
 obtain ⟨A, c, rfl, _, _, _⟩ := (SeqS.of_owns h.rr).form
 obtain ⟨Q, d, rfl, _, _, _⟩ := (SeqS.of_owns h.tr).form
 refine ⟨A, c, Q, d, rfl, rfl, SeqS.of_owns h.rr, vs, SeqS.of_owns h.tr, fun i l hl => ?_⟩
 have hi := (List.getElem?_eq_some_iff.1 hl).1
 by_cases e : i + 1 < p.ts.length
 ·obtain ⟨v, e1, e2, _⟩ := h.th.old i l e hl
  obtain ⟨A2, c2, rfl, _, _, _⟩ := (SeqS.of_owns e2).form
  exact ⟨A2, c2, e1, SeqS.of_owns e2⟩
 ·obtain ⟨v, e1, e2⟩ := h.th.last i l (by omega) hl
  obtain ⟨A2, c2, rfl, _, _, _⟩ := (SeqS.of_owns e2).form
  exact ⟨A2, c2, e1, SeqS.of_owns e2⟩
end
end Go.Proofs.YtcpgneimagmknaaGreatDoor
