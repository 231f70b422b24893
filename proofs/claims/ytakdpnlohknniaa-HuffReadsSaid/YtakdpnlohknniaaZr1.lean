import Derived.WalkKit
import Derived.ProofKit
import Derived.Lib.Hide
import Derived.Lib.AppendStr
import Derived.Lib.SlBytesRow
import Derived.Laws.AppendOwnNone
import Derived.Deep.AppendLies
import Derived.Deep.Draws
import Derived.BigQuiet
import Derived.Deep.QuietTactic
import Derived.Deep.RegionWith
import Derived.OpenShut
import Derived.Outline
import Derived.Deep.Slices
import Derived.ChangeSame
import Derived.Laws.IdiomStrings
import Derived.SliceStrings
import Derived.Laws.DeepStrings4
import Derived.SizedLaws
import Derived.Laws.OwnMore
import Derived.Test.YtakdpnlohknniaaRows
import Derived.Deep.OwnRows
import Derived.Deep.MidRow
import Derived.IntWalk
import Derived.Lib.BufferRead
import Derived.Laws.BitsAllLaws
import Derived.Laws.Bits64
import Derived.Laws.Bits64b
import Derived.Deep.RegionHeld3
import Derived.RegionTactic
import Derived.StillTailTactics
import Derived.Deep.RegionLaw
import Derived.Laws.CopyOwn
import Derived.Deep.DeepFit
import Derived.Deep.DeepCutAuto
import Derived.Deep.RegionHeld
import Derived.ShutString
import Derived.ChangeOld
import Derived.Below
import Derived.Test.YtakdpnlohknniaaZl2
namespace Go.Proofs.Ytakdpnlohknniaa
open Go.RowKit
set_option linter.unusedVariables false
set_option linter.unusedSimpArgs false
theorem SeqS.drew {w : World} {sz n : Nat} {v : Value} {xs : List Value} (h : SeqS w sz v n xs) : SeqS w.drew sz v n xs := h
theorem owned_drewN {w : World} {B : Nat} {e : TypeId} {size n : Nat} {v : Value} {xs : List Value} (h : w.ownsRow B e size v n xs) (k : Nat) : (w.drewN k).ownsRow B e size v n xs := h
theorem ret_text {a b : ByteArray} (h : a = b) : Ending.returned (.string a) = .returned (.string b) := by rw [h]
theorem owns_made (w : World) (e : TypeId) (z : Value) (hz : z.cells = #[z]) (n : Nat) (hn : n ≤ maxLen) :
  (w.alloc (.cells (madeCells #[z] n) e)).ownsRow w.heap.size e 1 (.slice (some ⟨w.heap.size, 0, none⟩) n n) n (List.replicate n z) := by
 have := World.ownsRow_lit (base := w.heap.size) (e := e) (size := 1) w (madeCells #[z] n) n (Nat.le_refl _) hn (by simp [size_madeCells])
 have e2 := zeros_made z hz n
 rw [hz, Nat.mul_one] at e2
 rwa [e2] at this
theorem pushRun_last (rs : List (Nat × Nat)) (n : Nat) : ∃ d y, pushRun rs n = d ++ [(n, y)] := by
 rcases runs_cases rs with rfl | ⟨l, v, c, rfl⟩
 ·exact ⟨[], 1, rfl⟩
 ·by_cases e : v = n
  ·subst e; exact ⟨_, _, pushRun_same _ _ _⟩
  ·exact ⟨_, _, pushRun_new _ _ _ _ e⟩
theorem packs_last {l : List Nat} {k n : Nat} (h : l[k]? = some n) : ∃ d y, packs (l.take (k + 1)) = d ++ [(n, y)] := by
 rw [packs_next h]; exact pushRun_last _ _
theorem Try.infoRun4 : (Try.prog.info? 104).map (fun i => (i.zero, i.size, i.bytes)) = some (some (.agg #[.int .u64 0, .int .u64 0]), 2, 16) := by kernel_rfl
set_option maxHeartbeats 1000000 in
theorem refPack (v : Value) (l : List Nat) (w : World) (h : SeqAt w v (cells64 l)) (hl : l.length ≤ 1099511627776) (hm : ∀ n ∈ l, n < M64) :
  Calls Try.prog 53 #[v] w fun e w' => ∃ v', e = .returned v' ∧ w'.ownsRow w.heap.size 104 2 v' (packs l).length (cells2 (packs l)) ∧ Below w.heap.size w w' := by
 have h0 := h
 obtain ⟨A, c, rfl, hc1, hc2, _⟩ := h
 have hcl : (cells64 l).length = l.length := by simp [cells64]
 rw [hcl] at hc1 h0 ⊢
 unfold maxLen at hc2
 clear hcl
 go_enter Try.func53, Try.ntmps53
 go_wp2
 go_loopw [3, 4] (fun t c wr => ∃ k : Nat, k ≤ l.length ∧ c = .int .i64 k ∧ wr.ownsRow w.heap.size 104 2 t (packs (l.take k)).length (cells2 (packs (l.take k))) ∧ Below w.heap.size w wr)
  (fun _ c _ => l.length - (intOf c).toNat)
 case atStart => exact ⟨0, by omega, rfl, World.ownsRow_nil _ _ _ _, Below.refl _ _⟩
 case round =>
  obtain ⟨k, hk, rfl, ho, hb⟩ := hrel
  by_cases hlt : k < l.length
  ·have hki : (k : Int) < (l.length : Int) := by omega
   have hg : l[k]? = some l[k] := List.getElem?_eq_getElem hlt
   obtain ⟨b, off, rfl, _, hcell⟩ := h0.get hb (cells64_get hg)
   have hnx := packs_next hg
   have hin := packs_in (l.take k)
   rw [List.length_take, Nat.min_eq_left hk] at hin
   have hn := hm _ (List.getElem_mem hlt)
   have hbs := hb.size
   have HO := Lib.hid ho
   rcases Nat.eq_zero_or_pos k with rfl | hk0
   ·have hpe : packs (l.take 0) = [] := by simp [packs]
    rw [hpe, pushRun_nil] at hnx
    rw [hpe] at ho HO
    generalize l[0] = n at *
    unfold M64 at hn
    have HNX := Lib.hid hnx
    obtain ⟨A2, cp2, hv2, _⟩ := (SeqS.of_owns ho).form
    rw [hv2] at HO
    rw [hv2]
    clear hnx ho hin h0 hg hv2 hpe
    rw [Nat.add_zero] at hcell
    go_wp2
    go_quiet (fail)
    go_wp2_with (at_builtin; refine append_oneS _ #[.int .u64 n, .int .u64 1] 2 rfl (.tmp 35) (.tmp 41) 102 rfl w.heap.size 104 _ 16 Try.underlying102 Try.infoRun4 rfl (by omega) rfl (by simp [Value.oneCell']) _ _ _ rfl HO.out rfl (by unfold maxLen; simp) (by simp) hbs ?_)
    intro v' w1 ho1 hb1 _
    have HS := Lib.hid ho1
    have HBN := Lib.hid ((below_drewN hb _).trans hb1)
    clear ho1 hb1 hb
    go_wp2
    go_roundw
    case rel => exact ⟨1, by omega, by go_num, by rw [show List.take (0 + 1) l = List.take 1 l from rfl] at HNX; rw [HNX.out]; exact HS.out, HBN.out⟩
    case measure => simp [intOf]; omega
   ·obtain ⟨m, rfl⟩ : ∃ m, k = m + 1 := ⟨k - 1, by omega⟩
    have hg1 : l[m]? = some l[m] := List.getElem?_eq_getElem (by omega)
    obtain ⟨b', off', hbo, _, hcell1⟩ := h0.get hb (cells64_get hg1)
    simp only [Option.some.injEq, Addr.mk.injEq, and_true] at hbo
    obtain ⟨rfl, rfl⟩ := hbo
    obtain ⟨d, y, hpl⟩ := packs_last hg1
    rw [hpl] at hnx hin ho HO
    generalize l[m + 1] = n at *
    generalize l[m] = x at *
    unfold M64 at hn
    have hlen : (d ++ [(x, y)]).length = d.length + 1 := by simp
    rw [hlen] at ho
    obtain ⟨g, cap, hv, hgb, hg2, hc3, hc4⟩ := owns_openS ho (by omega)
    rw [hv] at ho
    rw [hv]
    obtain ⟨c1, c2, c3, c4⟩ := own_last ho rfl
    have hdl := hin.1
    have hy := hin.2 (x, y) (by simp)
    simp only at hy
    rw [hlen] at hdl
    have hmi : (m : Int) < (l.length : Int) := by omega
    clear hin h0 hg hg1 hpl
    by_cases hxn : x = n
    ·subst hxn
     rw [pushRun_same] at hnx
     have HNX := Lib.hid hnx
     have HS := Lib.hid (c4 (y + 1))
     have hbn := fun n => (below_drewN hb n).setCell (p := ⟨g, d.length * 2 + 1, none⟩) hgb (.int .u64 ((y + 1 : Nat) : Int))
     have HBN := Lib.hid hbn
     have e1 : ((x : Int) == (x : Int)) = true := by simp
     clear hnx c4 hbn ho hb HO hv hlen
     go_wp2
     go_quiet (fail)
     go_wp2
     go_roundw
     case rel => exact ⟨m + 1 + 1, by omega, by go_num, by rw [HNX.out, show (d ++ [(x, y + 1)]).length = d.length + 1 by simp]; exact HS.out, HBN.out _⟩
     case measure => simp [intOf]; omega
    ·rw [pushRun_new _ _ _ _ hxn] at hnx
     have HNX := Lib.hid hnx
     have HO2 := Lib.hid ho
     have e1 : ((n : Int) == (x : Int)) = false := by simp; omega
     have hlen2 : (d ++ [(x, y)] ++ [(n, 1)]).length = d.length + 1 + 1 := by simp
     have HLEN2 := Lib.hid hlen2
     clear hnx c4 ho HO hv hlen c2 c3 hlen2 c1
     go_wp2
     go_quiet (fail)
     go_wp2_with (at_builtin; refine append_oneS _ #[.int .u64 n, .int .u64 1] 2 rfl (.tmp 35) (.tmp 41) 102 rfl w.heap.size 104 _ 16 Try.underlying102 Try.infoRun4 rfl (by omega) rfl (by simp [Value.oneCell']) _ _ _ rfl HO2.out rfl (by unfold maxLen; omega) (by omega) hbs ?_)
     intro v' w1 ho1 hb1 _
     have ho2 : w1.ownsRow w.heap.size 104 2 v' (d.length + 1 + 1) (cells2 ((d ++ [(x, y)]) ++ [(n, 1)])) := by
      rw [cells2_append (d ++ [(x, y)])]; exact ho1
     have HS := Lib.hid ho2
     have HBN := Lib.hid ((below_drewN hb _).trans hb1)
     clear ho1 ho2 hb1 hb
     go_wp2
     go_roundw
     case rel => exact ⟨m + 1 + 1, by omega, by go_num, by rw [HNX.out, HLEN2.out]; exact HS.out, HBN.out⟩
     case measure => simp [intOf]; omega
  ·obtain rfl : k = l.length := by omega
   rw [List.take_of_length_le (Nat.le_refl _)] at ho
   go_wp2
   go_ret
   exact ⟨_, rfl, ho, hb⟩
set_option maxHeartbeats 1000000 in
theorem refPrint (n : Nat) (w : World) (hn : n < M64) :
  Calls Try.prog 36 #[.int .u64 n] w fun e w' => e = .returned (.string (textB (enc n))) ∧ Below w.heap.size w w' := by
 have hn2 : n ≤ 18446744073709551615 := by unfold M64 at hn; omega
 go_enter Try.func36, Try.ntmps36
 go_wp2
 have ho0 := World.ownsRow_made (base := w.heap.size) (e := 5) (size := 1) w #[] 0 (Nat.le_refl _) (by unfold maxLen; omega) rfl
 have hb0 := (Below.refl w.heap.size w).alloc (Nat.le_refl _) (.cells #[] 5)
 go_loopw [0, 3] (fun i t wr => ∃ (f m : Nat) (d : List UInt8), i = .int .u64 m ∧ m ≤ 18446744073709551615 ∧ f ≤ 9 ∧ Hid (m < 128 ^ (f + 1)) ∧ Hid (d ++ leb f m = [] ++ enc n) ∧ d.length + (f + 1) ≤ 10 ∧ wr.ownsRow w.heap.size 5 1 t d.length (cellsB d) ∧ Below w.heap.size w wr)
  (fun i _ _ => (intOf i).toNat)
 case atStart => exact ⟨9, n, [], rfl, hn2, by omega, Nat.lt_of_lt_of_le hn m64_lt, rfl, by simp, ho0, hb0⟩
 case round =>
  clear ho0 hb0
  obtain ⟨f, m, d, rfl, hm, hf, hp, hd, hdl, ho, hb⟩ := hrel
  have hBr : w.heap.size ≤ wr.heap.size := hb.size
  by_cases h : m < 128
  ·have e0 : decide ((127 : Int) < (m : Int)) = false := by simp; omega
   have hx := last_byte m h
   have hg := Lib.hid (grow_done hd.out h)
   generalize UInt8.ofNat m = b at *
   have HX := Lib.hid hx
   clear hx
   have hcv : ∀ (w1 : World) (v : Value), w1.ownsRow w.heap.size 5 1 v (d.length + 1) (cellsB d ++ [.int .u8 (b.toNat : Int)]) → (convert 30 9 v).run Try.prog w1 = .ok (.string (textB (d ++ [b]))) w1 := by
    intro w1 v h
    rw [cellsB_push] at h
    exact convert_owned w1 _ v _ _ (by simp) h
   have HCV := Lib.hid hcv
   clear hcv
   go_wp2_with (at_builtin; rw [HX.out]; refine append_one wr (.int .u8 b.toNat) rfl (.tmp 16) (.tmp 19) 30 rfl w.heap.size 5 _ _ Try.underlying30 Try.infoU8 rfl rfl _ _ _ rfl ho rfl (by unfold maxLen; omega) (by omega) hBr ?_; intro v' w1 hown1 hb1 _; have hcv1 := HCV.out w1 v' hown1; clear hown1)
   go_ret
   exact ⟨ret_text (by rw [hg.out]; rfl), hb.trans hb1⟩
  ·have e0 : decide ((127 : Int) < (m : Int)) = true := by simp; omega
   obtain ⟨f', rfl, hd', hp'⟩ := grow_step hd.out hp.out h
   have HD := Lib.hid hd'
   have HP := Lib.hid hp'
   have hx : (m : Int) % 128 + 128 = ((UInt8.ofNat (m % 128 + 128)).toNat : Int) := by rw [UInt8.toNat_ofNat']; omega
   clear hd hp hd' hp'
   generalize UInt8.ofNat (m % 128 + 128) = b at *
   go_wp2_with (at_builtin; refine append_one wr (.int .u8 b.toNat) rfl (.tmp 7) (.tmp 12) 30 rfl w.heap.size 5 _ _ Try.underlying30 Try.infoU8 rfl rfl _ _ _ rfl ho rfl (by unfold maxLen; omega) (by omega) hBr ?_; intro v' w1 hown1 hb1 _)
   rw [cellsB_push] at hown1
   go_roundw
   case rel => exact ⟨f', m / 128, d ++ [b], by go_num, by omega, by omega, HP, HD, by rw [List.length_append]; simp; omega, by rw [List.length_append]; exact hown1, hb.trans hb1⟩
   case measure => simp [intOf]; omega
set_option maxHeartbeats 1000000 in
set_option maxRecDepth 100000 in
theorem refPrint4 (v : Value) (l : List Nat) (w : World) (h : SeqAt w v (cells64 l)) (hl : l.length ≤ 1099511627776) (hm : ∀ n ∈ l, n < M64) :
  Calls Try.prog 37 #[v] w fun e w' => e = .returned (.string (textB (printR l))) ∧ Below w.heap.size w w' := by
 have hP := refPack v l w h hl hm
 have hin := packs_in l
 have hpm := packs_mem l hm
 have HR : Hid (printR l = enc (packs l).length ++ bodyR (packs l)) := rfl
 generalize packs l = rs at *
 obtain ⟨hrl, hrc⟩ := hin
 have hrl2 : rs.length ≤ 1099511627776 := by omega
 have HP := Lib.hid hP
 clear hP h
 go_enter Try.func37, Try.ntmps37
 go_wp2_with fail
 refine HP.out.mono ?_
 rintro e w1 ⟨vr, rfl, ho, hb1⟩
 obtain ⟨A, cp, rfl, hc1, hc2, _⟩ := (SeqS.of_owns ho).form
 unfold maxLen at hc2
 have HO := Lib.hid ho
 clear ho HP
 go_wp2_with fail
 refine (refPrint rs.length w1 (by unfold M64; omega)).mono ?_
 rintro e w2 ⟨rfl, hb2⟩
 have ho2 := SeqS.of_owns (owns_below HO.out hb2)
 have hb1 := hb1.trans (hb2.mono hb1.size)
 clear HO hb2
 have HO := Lib.hid ho2
 clear ho2
 have he := enc_length rs.length
 go_wp2
 go_loopw [4, 5] (fun t c wr => ∃ k : Nat, k ≤ rs.length ∧ c = .int .i64 k ∧ t = .string (textB (enc rs.length ++ bodyR (rs.take k))) ∧ SeqS wr 2 (.slice A rs.length cp) rs.length (cells2 rs) ∧ Below w.heap.size w wr)
  (fun _ c _ => rs.length - (intOf c).toNat)
 case atStart => exact ⟨0, by omega, rfl, by simp [bodyR], HO.out, hb1⟩
 case round =>
  clear HO hb1
  obtain ⟨k, hk, rfl, rfl, ho, hb⟩ := hrel
  by_cases hlt : k < rs.length
  ·have hki : (k : Int) < (rs.length : Int) := by omega
   have hg : rs[k]? = some rs[k] := List.getElem?_eq_getElem hlt
   obtain ⟨b, off, rfl, c1, c2⟩ := seq2_at ho hg hlt
   have hnx := bodyR_next hg
   have hpm := hpm _ (List.getElem_mem hlt)
   have hpc := hrc _ (List.getElem_mem hlt)
   have hbl := bodyR_length (rs.take k)
   rw [List.length_take, Nat.min_eq_left hk] at hbl
   generalize rs[k] = p at *
   obtain ⟨x, c⟩ := p
   simp only at c1 c2 hnx hpm hpc
   have he1 := enc_length x
   have he2 := enc_length (c - 1)
   have hvx := fun w => refPrint x w hpm
   have hvc := fun w => refPrint (c - 1) w (by unfold M64; omega)
   rw [show ((c - 1 : Nat) : Int) = (c : Int) - 1 by omega] at hvc
   have HVX := Lib.hid hvx
   have HVC := Lib.hid hvc
   have HNX := Lib.hid hnx
   unfold M64 at hpm
   generalize enc x = ex at *
   generalize enc (c - 1) = ec at *
   generalize hd : enc rs.length ++ bodyR (rs.take k) = d at *
   have hdl : d.length ≤ 10 + 20 * k := by rw [← hd, List.length_append]; omega
   have HD := Lib.hid hd
   have hci1 : (1 : Int) ≤ (c : Int) := by omega
   have hci2 : (c : Int) ≤ 1099511627776 := by omega
   have hs1 : (textB ex).size + (textB ec).size ≤ 9223372036854775807 := by rw [textB_size, textB_size]; omega
   have hs2 : (textB d).size + ((textB ex).size + (textB ec).size) ≤ 9223372036854775807 := by rw [textB_size, textB_size, textB_size]; omega
   have ht : textB d ++ (textB ex ++ textB ec) = textB (enc rs.length ++ bodyR (rs.take (k + 1))) := by rw [text_append, text_append, ← HD.out, HNX.out, List.append_assoc]
   have HT := Lib.hid ht
   have hwr : IntKind.u64.wrap ((c : Int) - 1) = (c : Int) - 1 := by rw [IntKind.wrap_u64]; omega
   clear hvx hvc hnx hd ht hg hbl he1 he2
   have hKeep : Hid (∀ a b' : World, Below a.heap.size a b' → (a.cell? ⟨b, off + k * 2, none⟩ = some (.int .u64 (x : Int)) ∧ a.cell? ⟨b, off + k * 2 + 1, none⟩ = some (.int .u64 (c : Int)) ∧ SeqS a 2 (.slice (some ⟨b, off, none⟩) rs.length cp) rs.length (cells2 rs)) →
     (b'.cell? ⟨b, off + k * 2, none⟩ = some (.int .u64 (x : Int)) ∧ b'.cell? ⟨b, off + k * 2 + 1, none⟩ = some (.int .u64 (c : Int)) ∧ SeqS b' 2 (.slice (some ⟨b, off, none⟩) rs.length cp) rs.length (cells2 rs))) :=
    fun a b' hb h => ⟨cell_later h.1 hb, cell_later h.2.1 hb, h.2.2.later hb⟩
   have hbd := hb.drew
   have hbs : w.heap.size ≤ wr.drew.heap.size := hb.size
   have hSd := ho.drew
   have c1d : wr.drew.cell? ⟨b, off + k * 2, none⟩ = some (.int .u64 (x : Int)) := c1
   have c2d : wr.drew.cell? ⟨b, off + k * 2 + 1, none⟩ = some (.int .u64 (c : Int)) := c2
   clear c1 c2 ho hb
   go_wp2_with fail
   try simp only [Act.put, List.setIfInBounds_toArray, List.set_cons_zero, List.set_cons_succ]
   refine wp_region_held_drew (S := fun w' => (w'.cell? ⟨b, off + k * 2, none⟩ = some (.int .u64 (x : Int)) ∧ w'.cell? ⟨b, off + k * 2 + 1, none⟩ = some (.int .u64 (c : Int)) ∧ SeqS w' 2 (.slice (some ⟨b, off, none⟩) rs.length cp) rs.length (cells2 rs)) ∧ Below w.heap.size w w' ∧ w.heap.size ≤ w'.heap.size) (by kernel_rfl) ⟨⟨c1d, c2d, hSd⟩, hbd, hbs⟩ (fun hHeld => ?_)
   clear c1d c2d hSd hbd hbs
   refine wpAnyH_take (i := 0) (v := (.string (textB d))) rfl (by kernel_rfl) (by kernel_rfl) (by kernel_rfl) (fun _ _ _ h => h) (Or.inl ⟨by rfl, fun w h => by (simp only [List.getElem_toArray, List.getElem_cons_succ, List.getElem_cons_zero]; clear h; go_simp)⟩) (by assumption) ?_
   simp only [Act.put, List.getElem_toArray, List.getElem_cons_succ, List.getElem_cons_zero, List.setIfInBounds_toArray, List.set_cons_zero, List.set_cons_succ]
   refine wpAnyH_take (i := 1) (v := (.slice (some ⟨b, off, none⟩) rs.length cp)) rfl (by kernel_rfl) (by kernel_rfl) (by kernel_rfl) (fun _ _ _ h => h) (Or.inl ⟨by rfl, fun w h => by (simp only [List.getElem_toArray, List.getElem_cons_succ, List.getElem_cons_zero]; clear h; go_simp)⟩) (by assumption) ?_
   simp only [Act.put, List.getElem_toArray, List.getElem_cons_succ, List.getElem_cons_zero, List.setIfInBounds_toArray, List.set_cons_zero, List.set_cons_succ]
   refine wpAnyH_take (i := 2) (v := (.int .i64 k)) rfl (by kernel_rfl) (by kernel_rfl) (by kernel_rfl) (fun _ _ _ h => h) (Or.inl ⟨by rfl, fun w h => by (simp only [List.getElem_toArray, List.getElem_cons_succ, List.getElem_cons_zero]; clear h; go_simp)⟩) (by assumption) ?_
   simp only [Act.put, List.getElem_toArray, List.getElem_cons_succ, List.getElem_cons_zero, List.setIfInBounds_toArray, List.set_cons_zero, List.set_cons_succ]
   refine wpAnyH_take (i := 3) (v := (.pointer (some ⟨b, off + k * 2, none⟩))) rfl (by kernel_rfl) (by kernel_rfl) (by kernel_rfl) (fun _ _ _ h => h) (Or.inl ⟨by rfl, fun w h => by (simp only [List.getElem_toArray, List.getElem_cons_succ, List.getElem_cons_zero]; clear h; go_simp)⟩) (by assumption) ?_
   simp only [Act.put, List.getElem_toArray, List.getElem_cons_succ, List.getElem_cons_zero, List.setIfInBounds_toArray, List.set_cons_zero, List.set_cons_succ]
   refine wpAnyH_take (i := 4) (v := (.pointer (some ⟨b, off + k * 2, none⟩))) rfl (by kernel_rfl) (by kernel_rfl) (by kernel_rfl) (fun _ _ _ h => h) (Or.inl ⟨by rfl, fun w h => by (simp only [List.getElem_toArray, List.getElem_cons_succ, List.getElem_cons_zero]; clear h; go_simp)⟩) (by assumption) ?_
   simp only [Act.put, List.getElem_toArray, List.getElem_cons_succ, List.getElem_cons_zero, List.setIfInBounds_toArray, List.set_cons_zero, List.set_cons_succ]
   refine wpAnyH_take (i := 5) (v := (.int .u64 x)) rfl (by kernel_rfl) (by kernel_rfl) (by kernel_rfl) (fun _ _ _ h => h) (Or.inl ⟨by rfl, fun w h => by (simp only [List.getElem_toArray, List.getElem_cons_succ, List.getElem_cons_zero]; have h1 := h.1.1; clear h; go_simp)⟩) (by assumption) ?_
   simp only [Act.put, List.getElem_toArray, List.getElem_cons_succ, List.getElem_cons_zero, List.setIfInBounds_toArray, List.set_cons_zero, List.set_cons_succ]
   refine wpAnyH_take (i := 7) (v := (.slice (some ⟨b, off, none⟩) rs.length cp)) rfl (by kernel_rfl) (by kernel_rfl) (by kernel_rfl) (fun _ _ _ h => h) (Or.inl ⟨by rfl, fun w h => by (simp only [List.getElem_toArray, List.getElem_cons_succ, List.getElem_cons_zero]; clear h; go_simp)⟩) (by assumption) ?_
   simp only [Act.put, List.getElem_toArray, List.getElem_cons_succ, List.getElem_cons_zero, List.setIfInBounds_toArray, List.set_cons_zero, List.set_cons_succ]
   refine wpAnyH_take (i := 8) (v := (.int .i64 k)) rfl (by kernel_rfl) (by kernel_rfl) (by kernel_rfl) (fun _ _ _ h => h) (Or.inl ⟨by rfl, fun w h => by (simp only [List.getElem_toArray, List.getElem_cons_succ, List.getElem_cons_zero]; clear h; go_simp)⟩) (by assumption) ?_
   simp only [Act.put, List.getElem_toArray, List.getElem_cons_succ, List.getElem_cons_zero, List.setIfInBounds_toArray, List.set_cons_zero, List.set_cons_succ]
   refine wpAnyH_take (i := 9) (v := (.pointer (some ⟨b, off + k * 2, none⟩))) rfl (by kernel_rfl) (by kernel_rfl) (by kernel_rfl) (fun _ _ _ h => h) (Or.inl ⟨by rfl, fun w h => by (simp only [List.getElem_toArray, List.getElem_cons_succ, List.getElem_cons_zero]; clear h; go_simp)⟩) (by assumption) ?_
   simp only [Act.put, List.getElem_toArray, List.getElem_cons_succ, List.getElem_cons_zero, List.setIfInBounds_toArray, List.set_cons_zero, List.set_cons_succ]
   refine wpAnyH_take (i := 10) (v := (.pointer (some ⟨b, off + k * 2 + 1, none⟩))) rfl (by kernel_rfl) (by kernel_rfl) (by kernel_rfl) (fun _ _ _ h => h) (Or.inl ⟨by rfl, fun w h => by (simp only [List.getElem_toArray, List.getElem_cons_succ, List.getElem_cons_zero]; clear h; go_simp)⟩) (by assumption) ?_
   simp only [Act.put, List.getElem_toArray, List.getElem_cons_succ, List.getElem_cons_zero, List.setIfInBounds_toArray, List.set_cons_zero, List.set_cons_succ]
   refine wpAnyH_take (i := 11) (v := (.int .u64 c)) rfl (by kernel_rfl) (by kernel_rfl) (by kernel_rfl) (fun _ _ _ h => h) (Or.inl ⟨by rfl, fun w h => by (simp only [List.getElem_toArray, List.getElem_cons_succ, List.getElem_cons_zero]; have h1 := h.1.2.1; clear h; go_simp)⟩) (by assumption) ?_
   simp only [Act.put, List.getElem_toArray, List.getElem_cons_succ, List.getElem_cons_zero, List.setIfInBounds_toArray, List.set_cons_zero, List.set_cons_succ]
   refine wpAnyH_take (i := 12) (v := (.int .u64 ((c : Int) - 1))) rfl (by kernel_rfl) (by kernel_rfl) (by kernel_rfl) (fun _ _ _ h => h) (Or.inl ⟨by rfl, fun w h => by (simp only [List.getElem_toArray, List.getElem_cons_succ, List.getElem_cons_zero]; clear h; go_simp)⟩) (by assumption) ?_
   simp only [Act.put, List.getElem_toArray, List.getElem_cons_succ, List.getElem_cons_zero, List.setIfInBounds_toArray, List.set_cons_zero, List.set_cons_succ]
   refine wpAnyH_ready (rs := [6]) (by kernel_rfl) (by simp) ?_
   refine AllReadyH.cons rfl (fun K hK => ?_) AllReadyH.nil
   rw [if_pos (by rfl)]
   go_wp2_with fail
   refine (keep_callS hKeep.out (HVX.out _) (by assumption)).mono ?_
   rintro e w' ⟨he, q⟩
   cases he
   dsimp only
   refine hK.out _ _ q (fun hHeld => ?_)
   clear hK K
   try simp only [Act.put, List.setIfInBounds_toArray, List.set_cons_zero, List.set_cons_succ]
   refine wpAnyH_ready (rs := [13]) (by kernel_rfl) (by simp) ?_
   refine AllReadyH.cons rfl (fun K hK => ?_) AllReadyH.nil
   rw [if_pos (by rfl)]
   go_wp2_with fail
   refine (keep_callS hKeep.out (HVC.out _) (by assumption)).mono ?_
   rintro e w' ⟨he, q⟩
   cases he
   dsimp only
   refine hK.out _ _ q (fun hHeld => ?_)
   clear hK K
   try simp only [Act.put, List.setIfInBounds_toArray, List.set_cons_zero, List.set_cons_succ]
   refine wpAnyH_take (i := 14) (v := (.string (textB ex ++ textB ec))) rfl (by kernel_rfl) (by kernel_rfl) (by kernel_rfl) (fun _ _ _ h => h) (Or.inl ⟨by rfl, fun w h => by (simp only [List.getElem_toArray, List.getElem_cons_succ, List.getElem_cons_zero]; clear h; go_simp)⟩) (by assumption) ?_
   simp only [Act.put, List.getElem_toArray, List.getElem_cons_succ, List.getElem_cons_zero, List.setIfInBounds_toArray, List.set_cons_zero, List.set_cons_succ]
   refine wpAnyH_take (i := 15) (v := (.string (textB (enc rs.length ++ bodyR (rs.take (k + 1)))))) rfl (by kernel_rfl) (by kernel_rfl) (by kernel_rfl) (fun _ _ _ h => h) (Or.inl ⟨by rfl, fun w h => by (simp only [List.getElem_toArray, List.getElem_cons_succ, List.getElem_cons_zero]; clear h; rw [← HT.out]; go_simp)⟩) (by assumption) ?_
   simp only [Act.put, List.getElem_toArray, List.getElem_cons_succ, List.getElem_cons_zero, List.setIfInBounds_toArray, List.set_cons_zero, List.set_cons_succ]
   refine wpAnyH_ready (rs := [16]) (by kernel_rfl) (by simp) ?_
   refine AllReadyH.cons rfl (fun K hK => ?_) AllReadyH.nil
   rw [if_pos (by rfl)]
   go_wp2_with fail
   refine hK.out _ _ (by assumption) (fun hHeld => ?_)
   clear hK K
   try simp only [Act.put, List.setIfInBounds_toArray, List.set_cons_zero, List.set_cons_succ]
   refine wpAnyH_done (by kernel_rfl) ?_ _
   obtain ⟨⟨_, _, hS⟩, hb, hbs⟩ := hHeld
   have HS := Lib.hid hS
   clear hS
   go_wp2
   go_roundw
   case rel => exact ⟨k + 1, by omega, by go_num, rfl, HS.out, hb⟩
   case measure => simp [intOf]; omega
  ·obtain rfl : k = rs.length := by omega
   rw [List.take_of_length_le (Nat.le_refl _), ← HR.out]
   go_wp2
   go_ret
   exact ⟨rfl, hb⟩
def lowV : List UInt8 → Nat
 | [] => 0
 | b :: l => b.toNat % 128 + 128 * lowV l
theorem lowV_snoc (l : List UInt8) (b : UInt8) : lowV (l ++ [b]) = lowV l + b.toNat % 128 * 128 ^ l.length := by
 induction l with
 | nil => simp [lowV]
 | cons c l ih => simp only [List.cons_append, lowV, ih, List.length_cons, pow128_succ]; rw [Nat.mul_add, Nat.add_assoc]; congr 2; rw [Nat.mul_comm, Nat.mul_assoc]
theorem lowV_drop (l : List UInt8) (j : Nat) : lowV (l.drop j) ≤ lowV l := by
 induction l generalizing j with
 | nil => simp
 | cons c l ih =>
  cases j with
  | zero => exact Nat.le_refl _
  | succ j => have := ih j; simp only [List.drop_succ_cons, lowV]; omega
theorem lowV_step (l : List UInt8) (j : Nat) (h : j < l.length) : lowV (l.drop j) = l[j].toNat % 128 + 128 * lowV (l.drop (j + 1)) := by
 rw [List.drop_eq_getElem_cons h, lowV]
theorem ret_three {a b c d e f : Value} (h : a = b) (k : c = d) (l : e = f) : Ending.returned (.tuple #[a, c, e]) = .returned (.tuple #[b, d, f]) := by rw [h, k, l]
set_option maxHeartbeats 2000000 in
set_option maxRecDepth 100000 in
theorem refRead (s : ByteArray) (at_ : Nat) (w : World) (hs : s.size ≤ 9223372036854775000) (ha : at_ ≤ s.size) :
  Calls Try.prog 22 #[.string s, .int .i64 at_] w fun e w' =>
  e = .returned (.tuple #[.int .u64 (rd (restOf s at_)).1, .int .i64 (rd (restOf s at_)).2.1, .int .i64 (at_ + (rd (restOf s at_)).2.2 : Nat)]) ∧ w = w' := by
 go_enter Try.func22, Try.ntmps22
 go_wp2
 go_loop [7] (fun u => ∃ k : Nat, k ≤ 9 ∧ u = .int .i64 k ∧ at_ + k ≤ s.size ∧
   Hid (rd (restOf s at_) = ((rdV (9 - k + 1) k (lowV ((restOf s at_).take k)) (restOf s (at_ + k))).1, (rdV (9 - k + 1) k (lowV ((restOf s at_).take k)) (restOf s (at_ + k))).2.1, (rdV (9 - k + 1) k (lowV ((restOf s at_).take k)) (restOf s (at_ + k))).2.2 + k)))
  (fun u => 10 - (intOf u).toNat)
 case atStart => exact ⟨0, by omega, rfl, by omega, rfl⟩
 case round =>
  obtain ⟨k, hk, rfl, hp, hrd⟩ := hrel
  have hk2 : (k : Int) < 10 := by omega
  by_cases hend : at_ + k < s.size
  ·have e0 : decide ((s.size : Int) ≤ (at_ : Int) + (k : Int)) = false := by simp; omega
   have e00 : ((at_ : Int) + (k : Int)) < (s.size : Int) := by omega
   have q2 : (0 : Int) ≤ (at_ : Int) + k := by omega
   have hL := rest_cons s (at_ + k) hend
   have hbl := (s[at_ + k]'hend).toNat_lt
   have hz : (s[at_ + k]'hend = 0) ↔ (s[at_ + k]'hend).toNat = 0 := by
    constructor
    ·intro h; rw [h]; rfl
    ·intro h; exact UInt8.toNat_inj.1 h
   cases hw : wrongB k (s[at_ + k]'hend)
   ·have hw2 := hw
    unfold wrongB at hw2
    have hw2 := of_decide_eq_false hw2
    have hcase : (decide (0 < k) = false ∧ ((k : Int) == 9) = false) ∨ (decide (0 < k) = true ∧ (((s[at_ + k]'hend).toNat : Int) == 0) = false ∧ ((k : Int) == 9) = false) ∨
      (decide (0 < k) = true ∧ (((s[at_ + k]'hend).toNat : Int) == 0) = false ∧ ((k : Int) == 9) = true ∧ decide ((1 : Int) < ((s[at_ + k]'hend).toNat : Int)) = false) := by
     rw [hz] at hw2
     simp only [decide_eq_false_iff_not, decide_eq_true_eq, beq_eq_false_iff_ne, beq_iff_eq, ne_eq]
     omega
    have hk9 : ¬ (s[at_ + k]'hend).toNat < 128 → k ≤ 8 := by omega
    clear hw2 hz
    by_cases hlast : (s[at_ + k]'hend).toNat < 128
    ·have e5 : decide (((s[at_ + k]'hend).toNat : Int) < 128) = true := by simp; omega
     have hres := hrd.out
     rw [hL, rdV_last _ _ _ _ _ hw hlast] at hres
     have HRES := Lib.hid hres
     have htk : (restOf s at_).take (k + 1) = (restOf s at_).take k ++ [s[at_ + k]'hend] := by
      rw [List.take_add_one]; congr 1
      unfold restOf
      rw [List.getElem?_drop, byte_at s (at_ + k) hend]; rfl
     have hlen : ((restOf s at_).take k).length = k := by unfold restOf; simp; omega
     have HV : Hid (lowV (((restOf s at_).take (k + 1)).drop 0) = lowV ((restOf s at_).take k) + (s[at_ + k]'hend).toNat * 128 ^ k) := by
      unfold Hid
      rw [List.drop_zero, htk, lowV_snoc, hlen, Nat.mod_eq_of_lt hlast]
     clear hres hrd hw hL hk9 htk hlen
     rcases hcase with ⟨c1, c2⟩ | ⟨c1, c2, c3⟩ | ⟨c1, c2, c3, c4⟩
     all_goals
      go_wp2_with fail
      go_loop [9, 10] (fun t u => ∃ j : Nat, j ≤ k + 1 ∧ u = .int .i64 ((j : Int) - 1) ∧ t = .int .u64 (lowV (((restOf s at_).take (k + 1)).drop j))) (fun _ u => (intOf u + 1).toNat)
      case atStart => exact ⟨k + 1, by omega, by go_num, by rw [List.drop_of_length_le (by simp; omega)]; rfl⟩
      case round =>
       obtain ⟨j, hj, rfl, rfl⟩ := hrel
       cases j with
       | zero =>
        go_wp2
        go_ret3
        exact ⟨ret_three (v_int (by rw [HRES.out]; have h := HV.out; rw [List.drop_zero] at h; rw [h])) (v_int (by rw [HRES.out]; rfl)) (v_int (by rw [HRES.out]; simp only; omega)), rfl⟩
       | succ j =>
        rw [show ((j + 1 : Nat) : Int) - 1 = (j : Int) by omega]
        have hju : (at_ : Int) + (j : Int) < (s.size : Int) := by omega
        have hjn : at_ + j < s.size := by omega
        have hst : lowV (((restOf s at_).take (k + 1)).drop j) = (s[at_ + j]'hjn).toNat % 128 + 128 * lowV (((restOf s at_).take (k + 1)).drop (j + 1)) := by
         have hjl : j < ((restOf s at_).take (k + 1)).length := by unfold restOf; simp; omega
         rw [lowV_step _ j hjl]
         congr 2
         have : ((restOf s at_).take (k + 1))[j]? = some (s[at_ + j]'hjn) := by
          rw [List.getElem?_take_of_lt (by omega)]
          unfold restOf
          rw [List.getElem?_drop, byte_at s (at_ + j) hjn]
         rw [List.getElem?_eq_getElem hjl] at this
         rw [Option.some.inj this]
        have hbd : lowV (((restOf s at_).take (k + 1)).drop j) ≤ 18446744073709551615 := by
         refine Nat.le_trans (lowV_drop _ _) ?_
         have h := HV.out
         rw [List.drop_zero] at h
         rw [h]
         have h2 := rd_bound (restOf s at_)
         rw [HRES.out] at h2
         exact h2
        have hjb := (s[at_ + j]'hjn).toNat_lt
        generalize lowV (((restOf s at_).take (k + 1)).drop (j + 1)) = X at *
        generalize hY : lowV (((restOf s at_).take (k + 1)).drop j) = Y at *
        have HY := Lib.hid hY
        have HST := Lib.hid hst
        have hxb : (X : Int) * 128 + ((s[at_ + j]'hjn).toNat : Int) % 128 ≤ 18446744073709551615 := by omega
        have hxb2 : (X : Int) * 128 ≤ 18446744073709551615 := by omega
        clear hY hst
        go_wp2
        go_round
        case rel => exact ⟨j, by omega, by first | rfl | go_num, v_int (by rw [HY.out, HST.out]; omega)⟩
        case measure => simp [intOf]
    ·have e5 : decide (((s[at_ + k]'hend).toNat : Int) < 128) = false := by simp; omega
     have hk8 := hk9 hlast
     have htk : (restOf s at_).take (k + 1) = (restOf s at_).take k ++ [s[at_ + k]'hend] := by
      rw [List.take_add_one]; congr 1
      unfold restOf
      rw [List.getElem?_drop, byte_at s (at_ + k) hend]; rfl
     have hlen : ((restOf s at_).take k).length = k := by unfold restOf; simp; omega
     have hlow : lowV ((restOf s at_).take (k + 1)) = lowV ((restOf s at_).take k) + ((s[at_ + k]'hend).toNat - 128) * 128 ^ k := by
      rw [htk, lowV_snoc, hlen]; congr 2; omega
     have hres := hrd.out
     rw [hL, rdV_more _ _ _ _ _ hw hlast, ← hlow] at hres
     have HRES := Lib.hid hres
     clear hres hrd hw hL hk9 hlow htk hlen
     rcases hcase with ⟨c1, c2⟩ | ⟨c1, c2, c3⟩ | ⟨c1, c2, c3, c4⟩
     all_goals
      go_wp2
      go_round
      case rel =>
       refine ⟨k + 1, by omega, by go_num, by omega, ?_⟩
       have he : 9 - k = 9 - (k + 1) + 1 := by omega
       show _ = _
       rw [HRES.out, he]
       simp only [Nat.add_assoc, Nat.add_comm 1 k]
      case measure => simp [intOf]; omega
   ·have hw2 := hw
    unfold wrongB at hw2
    have hw2 := of_decide_eq_true hw2
    have hcase : (decide (0 < k) = true ∧ (((s[at_ + k]'hend).toNat : Int) == 0) = true) ∨ (decide (0 < k) = true ∧ (((s[at_ + k]'hend).toNat : Int) == 0) = false ∧ ((k : Int) == 9) = true ∧ decide ((1 : Int) < ((s[at_ + k]'hend).toNat : Int)) = true) := by
     rw [hz] at hw2
     simp only [decide_eq_true_eq, beq_eq_false_iff_ne, beq_iff_eq, ne_eq]
     omega
    have hres := hrd.out
    rw [hL, rdV_wrong _ _ _ _ _ hw] at hres
    have HRES := Lib.hid hres
    clear hres hrd hw hL hw2 hz
    rcases hcase with ⟨c1, c2⟩ | ⟨c1, c2, c3, c4⟩
    all_goals
     go_wp2
     go_ret3
     exact ⟨ret_three (v_int (by rw [HRES.out]; rfl)) (v_int (by rw [HRES.out]; rfl)) (v_int (by rw [HRES.out]; simp only; omega)), rfl⟩
  ·have hpos : at_ + k = s.size := by omega
   have e0 : decide ((s.size : Int) ≤ (at_ : Int) + (k : Int)) = true := by simp; omega
   have hres := hrd.out
   rw [hpos, rest_nil, rdV] at hres
   have HRES := Lib.hid hres
   have HP := Lib.hid hpos
   clear hres hrd hpos
   go_wp2
   go_ret3
   exact ⟨ret_three (v_int (by rw [HRES.out]; rfl)) (v_int (by rw [HRES.out]; rfl)) (v_int (by rw [HRES.out]; simp only; have := HP.out; omega)), rfl⟩
def cellsL (l : List Bool) : List Value := l.map Value.bool
theorem cellsL_length (l : List Bool) : (cellsL l).length = l.length := by simp [cellsL]
theorem cellsL_get {l : List Bool} {k : Nat} {b : Bool} (h : l[k]? = some b) : (cellsL l)[k]? = some (.bool b) := by simp [cellsL, h]
theorem take_next {α : Type} {l : List α} {k : Nat} {b : α} (h : l[k]? = some b) : l.take (k + 1) = l.take k ++ [b] := by rw [List.take_add_one, h]; rfl
def kr (M : Nat) (D : Nat → Nat) (s : List N2) : Nat := (s.map fun p => 2 ^ (M - D p.2)).sum
theorem kr_perm {M : Nat} {D : Nat → Nat} {s t : List N2} (h : s.Perm t) : kr M D s = kr M D t := (h.map _).sum_nat
theorem kr_cons (M : Nat) (D : Nat → Nat) (p : N2) (s : List N2) : kr M D (p :: s) = 2 ^ (M - D p.2) + kr M D s := by simp [kr]
theorem kr_congr {M : Nat} {D E : Nat → Nat} {s : List N2} (h : ∀ p ∈ s, D p.2 = E p.2) : kr M D s = kr M E s := by
 unfold kr
 congr 1
 exact List.map_congr_left fun p hp => by rw [h p hp]
theorem kraft : ∀ (n : Nat) (s : List N2) (num M : Nat), s.length = n + 1 → NumOk s num → n ≤ M → kr M (dpF s num) s = 2 ^ M
 | 0, s, num, M, h, hn, hM => by
  match s, h with
  | [p], h => rw [kr_cons, dpF_end _ _ _ (by simp)]; simp [kr]
 | n + 1, s, num, M, h, hn, hM => by
  match s, h with
  | a :: b :: r, h =>
   have hl : (insL (sumW a.1 b.1, num) r).length = n + 1 := by rw [insL_length]; simp at h; omega
   have ih := kraft n _ (num + 1) M hl (numOk_step hn) (by omega)
   have hp := kr_perm (M := M) (D := dpF (insL (sumW a.1 b.1, num) r) (num + 1)) (insL_perm (sumW a.1 b.1, num) r)
   rw [hp, kr_cons] at ih
   have hd := dpF_le (n + 1) _ (num + 1) num hl
   have ha : dpF (a :: b :: r) num a.2 = dpF (insL (sumW a.1 b.1, num) r) (num + 1) num + 1 := by rw [dpF_step, if_pos (.inl rfl)]
   have hb : dpF (a :: b :: r) num b.2 = dpF (insL (sumW a.1 b.1, num) r) (num + 1) num + 1 := by rw [dpF_step, if_pos (.inr rfl)]
   have hr : kr M (dpF (a :: b :: r) num) r = kr M (dpF (insL (sumW a.1 b.1, num) r) (num + 1)) r := kr_congr fun p hp => by
    have h2 := hn.2
    simp only [List.map_cons, List.nodup_cons] at h2
    rw [dpF_step, if_neg]
    rintro (e | e)
    ·exact h2.1 (List.mem_cons_of_mem _ (List.mem_map.2 ⟨p, hp, e⟩))
    ·exact h2.2.1 (List.mem_map.2 ⟨p, hp, e⟩)
   rw [kr_cons, kr_cons, ha, hb, hr]
   simp only at ih
   generalize dpF (insL (sumW a.1 b.1, num) r) (num + 1) num = d at *
   have e : 2 ^ (M - d) = 2 ^ (M - (d + 1)) + 2 ^ (M - (d + 1)) := by
    rw [show M - d = M - (d + 1) + 1 by omega, Nat.pow_succ]; omega
   omega
section
variable (ws : List Nat)
theorem depW_pos (hw : ws.length = 256) (i : Nat) (hi : i < (lvs ws).length) : 1 ≤ (depW ws).getD i 0 := by
 have hpl := parW_length ws
 by_cases h1 : (lvs ws).length = 1
 ·obtain rfl : i = 0 := by omega
  rw [depW_one ws h1]; exact Nat.le_refl _
 ·rw [depW_is ws hw (by omega) i (by omega), dpW_parent ws i (by omega)]; omega
end
def gS (d : Nat) : Nat := if d = 0 then 0 else 2 ^ (56 - d)
theorem shr_sum (ls : List Nat) : ∀ b, shr ls b = ((ls.take b).map gS).sum
 | 0 => by simp [shr]
 | b + 1 => by
  rcases h : ls[b]? with _ | n
  ·have e : ls.take (b + 1) = ls.take b := by rw [List.take_add_one, h]; simp
   have := shr_sum ls b
   unfold shr at *
   rw [e]; exact this
  ·rw [shr_step h, shr_sum ls b, List.take_add_one, h]
   unfold shF gS
   simp only [Option.toList_some, List.map_append, List.sum_append, List.map_cons, List.map_nil, List.sum_cons, List.sum_nil]
   split <;> omega
theorem lenP_sum (ds : List Nat) (n : Nat) : ∀ ws : List Nat, ws.length = n → (((lenP ds ws).1).map gS).sum = ((lvs ws).map fun p => gS (ds.getD p.2 0)).sum := by
 induction n with
 | zero => intro ws h; rw [List.length_eq_zero_iff.1 h]; rfl
 | succ n ih =>
  intro ws h
  obtain ⟨ws', b, rfl⟩ : ∃ l b, ws = l ++ [b] := ⟨ws.dropLast, ws.getLast (by intro e; rw [e] at h; simp at h), (List.dropLast_concat_getLast _).symm⟩
  have h' : ws'.length = n := by simpa using h
  have i1 := ih ws' h'
  have i2 := lenP_snd ds _ ws' rfl
  rw [lvs_snoc]
  have e : lenP ds (ws' ++ [b]) = lenF ds (lenP ds ws') b := by unfold lenP; rw [List.foldl_append]; rfl
  rw [e]
  unfold lenF lvF
  by_cases h0 : 0 < b
  ·rw [if_pos h0, if_pos h0, List.map_append, List.sum_append, List.map_append, List.sum_append, i1, i2]; simp
  ·rw [if_neg h0, if_neg h0, List.map_append, List.sum_append, i1]; simp [gS]
theorem sum_scale : ∀ (l : List N2) (f g : N2 → Nat) (c : Nat), (∀ p ∈ l, f p = c * g p) → (l.map f).sum = c * (l.map g).sum
 | [], f, g, c, _ => by simp
 | p :: l, f, g, c, h => by
  rw [List.map_cons, List.sum_cons, List.map_cons, List.sum_cons, sum_scale l f g c (fun q hq => h q (List.mem_cons_of_mem _ hq)), h p (by simp), Nat.mul_add]
theorem lvs_byte' (m : Nat) : ∀ ws : List Nat, ws.length = m → ∀ i, i < (lvs ws).length → ∃ j n, ws[j]? = some n ∧ 0 < n ∧ (lvs (ws.take j)).length = i := by
 induction m with
 | zero => intro ws h i hi; rw [List.length_eq_zero_iff.1 h] at hi; simp [lvs] at hi
 | succ m ih =>
  intro ws h i hi
  obtain ⟨ws', b, rfl⟩ : ∃ l b, ws = l ++ [b] := ⟨ws.dropLast, ws.getLast (by intro e; rw [e] at h; simp at h), (List.dropLast_concat_getLast _).symm⟩
  have h' : ws'.length = m := by simpa using h
  by_cases hlt : i < (lvs ws').length
  ·obtain ⟨j, n, h1, h2, h3⟩ := ih ws' h' i hlt
   have hj := (List.getElem?_eq_some_iff.1 h1).1
   exact ⟨j, n, by rw [List.getElem?_append_left hj]; exact h1, h2, by rw [List.take_append_of_le_length (by omega)]; exact h3⟩
  ·rw [lvs_snoc] at hi
   unfold lvF at hi
   by_cases h0 : 0 < b
   ·rw [if_pos h0, List.length_append, List.length_singleton] at hi
    exact ⟨ws'.length, b, by rw [List.getElem?_append_right (Nat.le_refl _), Nat.sub_self]; rfl, h0, by rw [List.take_append_of_le_length (Nat.le_refl _), List.take_of_length_le (Nat.le_refl _)]; omega⟩
   ·rw [if_neg h0] at hi; omega
theorem lvs_byte (ws : List Nat) (i : Nat) (hi : i < (lvs ws).length) : ∃ j n, ws[j]? = some n ∧ 0 < n ∧ (lvs (ws.take j)).length = i := lvs_byte' _ ws rfl i hi
theorem lenP_count0 (ds : List Nat) (m : Nat) : ∀ ws : List Nat, ws.length = m → (∀ i, i < (lvs ws).length → 1 ≤ ds.getD i 0) → (lenP ds ws).1.count 0 + (lvs ws).length = m := by
 induction m with
 | zero => intro ws h _; rw [List.length_eq_zero_iff.1 h]; rfl
 | succ m ih =>
  intro ws h hd
  obtain ⟨ws', b, rfl⟩ : ∃ l b, ws = l ++ [b] := ⟨ws.dropLast, ws.getLast (by intro e; rw [e] at h; simp at h), (List.dropLast_concat_getLast _).symm⟩
  have h' : ws'.length = m := by simpa using h
  have i2 := lenP_snd ds _ ws' rfl
  have e : lenP ds (ws' ++ [b]) = lenF ds (lenP ds ws') b := by unfold lenP; rw [List.foldl_append]; rfl
  rw [lvs_snoc] at hd
  rw [e, lvs_snoc]
  unfold lenF lvF at *
  by_cases h0 : 0 < b
  ·rw [if_pos h0] at hd ⊢
   have i1 := ih ws' h' (fun i hi => hd i (by rw [List.length_append]; omega))
   have hb := hd (lvs ws').length (by rw [List.length_append, List.length_singleton]; omega)
   rw [if_pos h0, List.count_append, i2, List.length_append, List.length_singleton]
   have : [ds.getD (lvs ws').length 0].count 0 = 0 := List.count_eq_zero.2 (fun hm => by rw [List.mem_singleton] at hm; omega)
   omega
  ·rw [if_neg h0] at hd ⊢
   have i1 := ih ws' h' hd
   rw [if_neg h0, List.count_append]
   have : [0].count 0 = 1 := by decide
   omega
theorem lenP_count1 (ds : List Nat) (m : Nat) : ∀ ws : List Nat, ws.length = m → (∀ i, i < (lvs ws).length → ds.getD i 0 = 1) → (lenP ds ws).1.count 1 = (lvs ws).length := by
 induction m with
 | zero => intro ws h _; rw [List.length_eq_zero_iff.1 h]; rfl
 | succ m ih =>
  intro ws h hd
  obtain ⟨ws', b, rfl⟩ : ∃ l b, ws = l ++ [b] := ⟨ws.dropLast, ws.getLast (by intro e; rw [e] at h; simp at h), (List.dropLast_concat_getLast _).symm⟩
  have h' : ws'.length = m := by simpa using h
  have i2 := lenP_snd ds _ ws' rfl
  have e : lenP ds (ws' ++ [b]) = lenF ds (lenP ds ws') b := by unfold lenP; rw [List.foldl_append]; rfl
  rw [lvs_snoc] at hd
  rw [e, lvs_snoc]
  unfold lenF lvF at *
  by_cases h0 : 0 < b
  ·rw [if_pos h0] at hd ⊢
   have i1 := ih ws' h' (fun i hi => hd i (by rw [List.length_append]; omega))
   have hb := hd (lvs ws').length (by rw [List.length_append, List.length_singleton]; omega)
   rw [if_pos h0, List.count_append, i2, List.length_append, List.length_singleton, hb, i1]
   rfl
  ·rw [if_neg h0] at hd ⊢
   have i1 := ih ws' h' hd
   rw [if_neg h0, List.count_append, i1]
   rfl
theorem lens_whole {ws : List Nat} (hw : ws.length = 256) (h56 : ∀ x ∈ lensW ws, x ≤ 56) : wholeB (lensW ws) = true ∧ shr (lensW ws) 256 ≤ 2 ^ 56 := by
 have hl := lensW_length ws hw
 have hsum : shr (lensW ws) 256 = ((lvs ws).map fun p => gS ((depW ws).getD p.2 0)).sum := by
  rw [shr_sum, List.take_of_length_le (by omega)]
  exact lenP_sum (depW ws) _ ws rfl
 by_cases h2 : 2 ≤ (lvs ws).length
 ·have hk := kraft ((lvs ws).length - 1) (sortL (lvs ws)) (List.replicate (lvs ws).length 0).length 255 (by rw [sortL_length]; omega) (srt_num ws) (by have := lvs_le ws hw; omega)
  rw [List.length_replicate, kr_perm (sortL_perm _)] at hk
  have hpl := parW_length ws
  have hsc := sum_scale (lvs ws) (fun p => 2 ^ (255 - dpW ws p.2)) (fun p => gS ((depW ws).getD p.2 0)) (2 ^ 199) (fun p hp => by
   have hlt := lvs_lt ws p hp
   have hpos := depW_pos ws hw p.2 hlt
   have hd := depW_is ws hw h2 p.2 (by omega)
   have hle : (depW ws).getD p.2 0 ≤ 56 := by
    obtain ⟨i, hi, he⟩ := List.getElem_of_mem hp
    have hg : (lvs ws)[i]? = some p := by rw [List.getElem?_eq_getElem hi, he]
    have hnum := (lvs_num _ ws rfl i p hg).1
    -- the length of its byte
    obtain ⟨j, n, hj, hn0, hjl⟩ := lvs_byte ws i hi
    have hlg := lensW_get hw hj
    rw [if_pos hn0, hjl] at hlg
    rw [hnum, ← hlg]
    refine h56 _ ?_
    rw [List.getD_eq_getElem?_getD, List.getElem?_eq_getElem (by have := (List.getElem?_eq_some_iff.1 hj).1; omega)]
    exact List.getElem_mem _
   unfold gS
   rw [if_neg (by omega), hd, ← Nat.pow_add]
   congr 1
   omega)
  have hkr : kr 255 (dpF (sortL (lvs ws)) (lvs ws).length) (lvs ws) = ((lvs ws).map fun p => 2 ^ (255 - dpW ws p.2)).sum := rfl
  rw [hkr, hsc, ← hsum] at hk
  have hs : shr (lensW ws) 256 = 2 ^ 56 := by
   have e : (2 : Nat) ^ 255 = 2 ^ 199 * 2 ^ 56 := by rw [← Nat.pow_add]
   rw [e] at hk
   exact Nat.eq_of_mul_eq_mul_left (Nat.two_pow_pos 199) hk
  refine ⟨?_, by omega⟩
  unfold wholeB
  rw [decide_eq_true (.inr (.inr hs))]
 ·have hc0 := lenP_count0 (depW ws) _ ws rfl (fun i hi => depW_pos ws hw i hi)
  change (lensW ws).count 0 + _ = _ at hc0
  have hcod : cod (lensW ws) 256 = (lvs ws).length := by unfold cod; rw [ct_all _ _ _ (by omega)]; omega
  by_cases h1 : (lvs ws).length = 1
  ·have hc1 := lenP_count1 (depW ws) _ ws rfl (fun i hi => by
    obtain rfl : i = 0 := by omega
    exact depW_one ws h1)
   change (lensW ws).count 1 = _ at hc1
   refine ⟨?_, ?_⟩
   ·unfold wholeB
    rw [decide_eq_true (.inr (.inl ⟨by rw [hcod, h1], by rw [ct_all _ _ _ (by omega), hc1, h1]⟩))]
   ·obtain ⟨p, hp⟩ := List.length_eq_one_iff.1 h1
    have hn := lvs_lt ws p (by rw [hp]; simp)
    rw [hsum, hp]
    have : p.2 = 0 := by omega
    simp only [List.map_cons, List.map_nil, List.sum_cons, List.sum_nil, this, depW_one ws h1]
    decide
  ·have h0 : (lvs ws).length = 0 := by omega
   refine ⟨?_, ?_⟩
   ·unfold wholeB
    rw [decide_eq_true (.inl (by rw [hcod, h0]))]
   ·rw [hsum, List.length_eq_zero_iff.1 h0]; simp
def gB : Nat → Nat → Nat → Nat
 | 0, m, w => w
 | d + 1, m, w => gB d w (w + m)
theorem gB_mono : ∀ d {m m' w w' : Nat}, m ≤ m' → w ≤ w' → gB d m w ≤ gB d m' w'
 | 0, _, _, _, _, _, h => h
 | d + 1, _, _, _, _, h1, h2 => gB_mono d h2 (by omega)
theorem gB_pow : ∀ d {c m w : Nat}, c ≤ m → c ≤ w → c * 2 ^ (d / 2) ≤ gB d m w
 | 0, c, m, w, _, h => by simpa [gB] using h
 | 1, c, m, w, h1, h2 => by
  show c * 2 ^ 0 ≤ w + m
  omega
 | d + 2, c, m, w, h1, h2 => by
  have := gB_pow d (c := 2 * c) (m := w + m) (w := w + m + w) (by omega) (by omega)
  show _ ≤ gB d (w + m) (w + m + w)
  rw [show (d + 2) / 2 = d / 2 + 1 by omega, Nat.pow_succ]
  rw [show c * (2 ^ (d / 2) * 2) = 2 * c * 2 ^ (d / 2) by rw [Nat.mul_comm (2 ^ (d / 2)) 2, ← Nat.mul_assoc, Nat.mul_comm c 2]]
  exact this
def wsum (s : List N2) : Nat := (s.map (·.1)).sum
theorem wsum_cons (p : N2) (s : List N2) : wsum (p :: s) = p.1 + wsum s := by simp [wsum]
theorem wsum_perm {s t : List N2} (h : s.Perm t) : wsum s = wsum t := (h.map _).sum_nat
theorem wsum_mem : ∀ {s : List N2} {p : N2}, p ∈ s → p.1 ≤ wsum s
 | q :: s, p, h => by
  rw [wsum_cons]
  rcases List.mem_cons.1 h with rfl | h
  ·omega
  ·have := wsum_mem h; omega
theorem kf_le {p q : N2} (h : kf p ≤ kf q) (hq : q.2 < 1024) : p.1 ≤ q.1 := by
 unfold kf at h; omega
theorem dp_heavy : ∀ (n : Nat) (s : List N2) (num m : Nat), s.length = n + 1 → SrtL s → NumOk s num → num + n < 1024 → wsum s < 18446744073709551616 → (∀ p ∈ s, m ≤ p.1) → ∀ p ∈ s, gB (dpF s num p.2) m p.1 ≤ wsum s
 | 0, s, num, m, hl, hs, hn, hnum, hw, hm, p, hp => by
  rw [dpF_end _ _ _ (by omega)]
  exact wsum_mem hp
 | n + 1, s, num, m, hl, hs, hn, hnum, hw, hm, p, hp => by
  match s, hl with
  | a :: b :: r, hl =>
   have hlt : ∀ q ∈ a :: b :: r, q.2 < 1024 := fun q hq => by have := hn.1 q hq; omega
   have hab : a.1 ≤ b.1 := kf_le (hs.1 b (by simp)) (hlt b (by simp))
   have hbr : ∀ q ∈ r, b.1 ≤ q.1 := fun q hq => kf_le (hs.2.1 q hq) (hlt q (by simp [hq]))
   have hma := hm a (by simp)
   have hmb := hm b (by simp)
   have hw2 : wsum (a :: b :: r) = a.1 + b.1 + wsum r := by rw [wsum_cons, wsum_cons]; omega
   have hsum : sumW a.1 b.1 = a.1 + b.1 := by unfold sumW; rw [if_pos (by omega)]
   have hn' := numOk_step (w := sumW a.1 b.1) hn
   have hs' := insL_srt (sumW a.1 b.1, num) r hs.2.2
   have hpm := insL_perm (sumW a.1 b.1, num) r
   have hw' : wsum (insL (sumW a.1 b.1, num) r) = wsum (a :: b :: r) := by
    rw [wsum_perm hpm, wsum_cons, hw2, hsum]
   have hl' : (insL (sumW a.1 b.1, num) r).length = n + 1 := by rw [insL_length]; simp at hl; omega
   have ih := fun m hm => dp_heavy n (insL (sumW a.1 b.1, num) r) (num + 1) m hl' hs' hn' (by omega) (by rw [hw']; exact hw) hm
   have hnew := (hpm.mem_iff (a := (sumW a.1 b.1, num))).2 (by simp)
   have hall : ∀ c, c ≤ b.1 → ∀ q ∈ insL (sumW a.1 b.1, num) r, c ≤ q.1 := fun c hc q hq => by
    rcases List.mem_cons.1 (hpm.mem_iff.1 hq) with rfl | hq
    ·show c ≤ sumW a.1 b.1; omega
    ·have := hbr q hq; omega
   rw [dpF_step]
   rw [hw'] at ih
   rcases List.mem_cons.1 hp with rfl | hp
   ·rw [if_pos (.inl rfl)]
    refine Nat.le_trans ?_ (ih p.1 (hall _ hab) _ hnew)
    show gB _ p.1 (p.1 + m) ≤ gB _ p.1 (sumW p.1 b.1)
    exact gB_mono _ (Nat.le_refl _) (by omega)
   rcases List.mem_cons.1 hp with rfl | hp
   ·rw [if_pos (.inr rfl)]
    refine Nat.le_trans ?_ (ih p.1 (hall _ (Nat.le_refl _)) _ hnew)
    show gB _ p.1 (p.1 + m) ≤ gB _ p.1 (sumW a.1 p.1)
    exact gB_mono _ (Nat.le_refl _) (by omega)
   ·have hnd := hn.2
    simp only [List.map_cons, List.nodup_cons, List.mem_cons, not_or] at hnd
    have hpr : p.2 ∈ r.map (·.2) := List.mem_map.2 ⟨p, hp, rfl⟩
    rw [if_neg (by
     rintro (e | e)
     ·exact hnd.1.2 (e ▸ hpr)
     ·exact hnd.2.1 (e ▸ hpr))]
    exact ih m (hall _ hmb) p (hpm.mem_iff.2 (by simp [hp]))
theorem lvs_pos (m : Nat) : ∀ ws : List Nat, ws.length = m → wsum (lvs ws) = ws.sum ∧ ∀ p ∈ lvs ws, 1 ≤ p.1 := by
 induction m with
 | zero => intro ws h; rw [List.length_eq_zero_iff.1 h]; exact ⟨rfl, fun p hp => by simp [lvs] at hp⟩
 | succ m ih =>
  intro ws h
  obtain ⟨ws', b, rfl⟩ : ∃ l b, ws = l ++ [b] := ⟨ws.dropLast, ws.getLast (by intro e; rw [e] at h; simp at h), (List.dropLast_concat_getLast _).symm⟩
  have h' : ws'.length = m := by simpa using h
  obtain ⟨h1, h2⟩ := ih ws' h'
  rw [lvs_snoc, List.sum_append]
  unfold lvF
  by_cases h0 : 0 < b
  ·rw [if_pos h0]
   refine ⟨?_, fun p hp => ?_⟩
   ·unfold wsum at *; rw [List.map_append, List.sum_append, h1]; simp
   ·rcases List.mem_append.1 hp with hp | hp
    ·exact h2 p hp
    ·rw [List.mem_singleton] at hp; rw [hp]; exact h0
  ·rw [if_neg h0]
   exact ⟨by rw [h1]; simp; omega, h2⟩
theorem dpW_small {ws : List Nat} (hw : ws.length = 256) {T : Nat} (hT : ws.sum ≤ T) (hT2 : T < 4096) (i : Nat) (hi : i < (lvs ws).length) : dpW ws i ≤ 24 := by
 obtain ⟨h1, h2⟩ := lvs_pos _ ws rfl
 have hg := List.getElem?_eq_getElem hi
 have hnum := (lvs_num _ ws rfl i _ hg).1
 have hle := lvs_le ws hw
 have hsn := srt_num ws
 rw [List.length_replicate] at hsn
 have hh := dp_heavy ((lvs ws).length - 1) (sortL (lvs ws)) (lvs ws).length 1 (by rw [sortL_length]; omega) (sortL_srt _) hsn (by omega) (by rw [wsum_perm (sortL_perm _), h1]; omega)
  (fun p hp => h2 p ((sortL_perm _).mem_iff.1 hp)) _ ((sortL_perm _).mem_iff.2 (List.getElem_mem hi))
 rw [hnum, wsum_perm (sortL_perm _), h1] at hh
 have hp := gB_pow (dpF (sortL (lvs ws)) (lvs ws).length i) (c := 1) (m := 1) (w := ((lvs ws)[i]'hi).1) (Nat.le_refl _) (h2 _ (List.getElem_mem hi))
 rw [Nat.one_mul] at hp
 show dpF (sortL (lvs ws)) (lvs ws).length i ≤ 24
 generalize dpF (sortL (lvs ws)) (lvs ws).length i = d at *
 rcases Nat.lt_or_ge d 24 with h | h
 ·omega
 ·have h12 : 2 ^ 12 ≤ 2 ^ (d / 2) := Nat.pow_le_pow_right (by decide) (by omega)
  have : (2 : Nat) ^ 12 = 4096 := by decide
  omega
theorem lensW_small {ws : List Nat} (hw : ws.length = 256) {T : Nat} (hT : ws.sum ≤ T) (hT2 : T < 4096) : ∀ x ∈ lensW ws, x ≤ 24 := by
 intro x hx
 obtain ⟨j, hj, rfl⟩ := List.getElem_of_mem hx
 rw [lensW_length ws hw] at hj
 have hn : ws[j]? = some (ws[j]'(by omega)) := List.getElem?_eq_getElem (by omega)
 have hlg := lensW_get hw hn
 rw [List.getD_eq_getElem?_getD, List.getElem?_eq_getElem (by rw [lensW_length ws hw]; exact hj)] at hlg
 rw [show (lensW ws)[j] = _ from hlg]
 by_cases h0 : 0 < ws[j]'(by omega)
 ·rw [if_pos h0]
  have hlt := lvs_at hn h0
  have hpl := parW_length ws
  by_cases h1 : (lvs ws).length = 1
  ·rw [show (lvs (ws.take j)).length = 0 by omega, depW_one ws h1]; decide
  ·rw [depW_is ws hw (by omega) _ (by omega)]
   exact dpW_small hw hT hT2 _ hlt
 ·rw [if_neg h0]; exact Nat.zero_le _
theorem sum_zeros : ∀ n : Nat, (List.replicate n 0).sum = 0
 | 0 => rfl
 | n + 1 => by rw [List.replicate_succ, List.sum_cons, sum_zeros n]
theorem cntL_sum (n : Nat) : ∀ bs : List UInt8, bs.length = n → (cntL bs).sum = n := by
 induction n with
 | zero => intro bs h; rw [List.length_eq_zero_iff.1 h, cntL_nil]; exact sum_zeros _
 | succ n ih =>
  intro bs h
  obtain ⟨bs', b, rfl⟩ : ∃ l b, bs = l ++ [b] := ⟨bs.dropLast, bs.getLast (by intro e; rw [e] at h; simp at h), (List.dropLast_concat_getLast _).symm⟩
  have h' : bs'.length = n := by simpa using h
  rw [cntL_snoc]
  have hs : ∀ (l : List Nat) (i : Nat), i < l.length → (l.set i (l.getD i 0 + 1)).sum = l.sum + 1 := fun l => by
   induction l with
   | nil => intro i hi; simp at hi
   | cons x l ihl =>
    intro i hi
    cases i with
    | zero => simp; omega
    | succ i =>
     have := ihl i (by simpa using hi)
     simp only [List.set_cons_succ, List.sum_cons, List.getD_cons_succ, this]
     omega
  unfold cntF
  rw [hs _ _ (by rw [cntL_length]; exact b.toNat_lt), ih bs' h']
theorem lens_text (bs : List UInt8) (h : bs.length ≤ 2000) : ∀ x ∈ lensW (cntL bs), x ≤ 56 := fun x hx => by
 have := lensW_small (cntL_length bs) (T := 2000) (by rw [cntL_sum _ bs rfl]; exact h) (by decide) x hx
 omega
theorem text_whole (bs : List UInt8) (h : bs.length ≤ 2000) : wholeB (lnT bs) = true ∧ shr (lnT bs) 256 ≤ 2 ^ 56 := lens_whole (cntL_length bs) (lens_text bs h)
theorem text_codes (bs : List UInt8) (h : bs.length ≤ 2000) : cdT bs = codL (lnT bs) := by
 have h56 : ∀ x ∈ lnT bs, x ≤ 56 := lens_text bs h
 have hg : greatB (lnT bs) = false := by
  unfold greatB; rw [List.any_eq_false]; intro x hx; have := h56 x hx; simp; omega
 have hE : cdsE (lnT bs) = 0 := by
  unfold cdsE
  rw [hg, (text_whole bs h).1]; rfl
 unfold cdT cdsOf
 rw [hE]; rfl
set_option maxHeartbeats 1000000 in
set_option maxRecDepth 100000 in
theorem refCount (s : ByteArray) (w : World) (hs : s.size ≤ 1099511627776) :
  Calls Try.prog 18 #[.string s] w fun e w' => e = .returned (.agg (cells64 (cntL s.data.toList)).toArray) ∧ Below w.heap.size w w' := by
 obtain ⟨zs, hzs⟩ : ∃ zs : Array Value, zs = Array.replicate 256 (.int .u64 0) := ⟨_, rfl⟩
 have hz := zero64
 rw [← hzs] at hz
 have hzl : zs = (cells64 (cntL [])).toArray := by
  rw [hzs, cntL_nil]
  unfold cells64
  rw [List.map_replicate]
  exact (List.toArray_replicate 256 _).symm
 have hzn : zs.size = 256 := by rw [hzs, Array.size_replicate]
 have HZL := Lib.hid hzl
 have HZN := Lib.hid hzn
 clear hzs hzl hzn
 go_enter Try.func18, Try.ntmps18
 have l0 := (Lies.made w 25 zs).alloc (.cells zs 25)
 have l1 := Lies.made (w.alloc (.cells zs 25)) 25 zs
 have hb1 : Below w.heap.size w ((w.alloc (.cells zs 25)).alloc (.cells zs 25)) := ((Below.refl _ _).alloc (Nat.le_refl _) _).alloc (by simp) _
 have hgs : (w.alloc (.cells zs 25)).heap.size = w.heap.size + 1 := by simp
 rw [hgs] at l1
 have H0 := Lib.hid l0
 have H1 := Lib.hid l1
 have HB := Lib.hid hb1
 clear l0 l1 hb1
 go_wp2_with fail
 clear hz hgs
 generalize (w.alloc (.cells zs 25)).alloc (.cells zs 25) = w1 at *
 go_loopw [4] (fun c wr => ∃ i : Nat, i ≤ s.size ∧ c = .int .i64 i ∧ Lies wr w.heap.size 25 zs ∧ Lies wr (w.heap.size + 1) 25 (cells64 (cntL (s.data.toList.take i))).toArray ∧ Below w.heap.size w wr)
  (fun c _ => s.size - (intOf c).toNat)
 case atStart => exact ⟨0, by omega, rfl, H0.out, by rw [List.take_zero, ← HZL.out]; exact H1.out, HB.out⟩
 case round =>
  clear H0 H1 HB
  obtain ⟨i, hi, rfl, l0, l1, hb⟩ := hrel
  have L0 := Lib.hid l0
  have L1 := Lib.hid l1
  have HB := Lib.hid hb
  clear l0 l1 hb
  by_cases hlt : i < s.size
  ·have hii : (i : Int) < (s.size : Int) := by omega
   have hby := byte_of s i hlt
   have hst := cntL_take hby
   have hln := cntL_length (s.data.toList.take i)
   have hle := cntL_le (s.data.toList.take i)
   have hblt := (s[i]'hlt).toNat_lt
   have HST := Lib.hid hst
   generalize hc : cntL (s.data.toList.take i) = c at *
   have hcg : c[(s[i]'hlt).toNat]? = some (c.getD (s[i]'hlt).toNat 0) := by
    rw [List.getD_eq_getElem?_getD, List.getElem?_eq_getElem (by omega)]; rfl
   have hcn : c.getD (s[i]'hlt).toNat 0 ≤ 1099511627776 := by
    have := hle _ (List.mem_of_getElem? hcg)
    rw [List.length_take] at this
    have e : s.data.toList.length = s.size := by simp
    omega
   have hcell : wr.cell? ⟨w.heap.size + 1, (s[i]'hlt).toNat, none⟩ = some (.int .u64 ((c.getD (s[i]'hlt).toNat 0 : Nat) : Int)) := (L1.out.cell _).trans (by rw [List.getElem?_toArray]; unfold cells64; rw [List.getElem?_map, hcg]; rfl)
   have hfree := L1.out.free (s[i]'hlt).toNat
   have hput := L1.out.put (s[i]'hlt).toNat (.int .u64 ((c.getD (s[i]'hlt).toNat 0 + 1 : Nat) : Int))
   rw [c64_set] at hput
   have hput2 : Hid (Lies (wr.setCell ⟨w.heap.size + 1, (s[i]'hlt).toNat, none⟩ (.int .u64 ((c.getD (s[i]'hlt).toNat 0 + 1 : Nat) : Int))) (w.heap.size + 1) 25 (cells64 (cntL (s.data.toList.take (i + 1)))).toArray) := by
    show Lies _ _ _ _
    rw [HST.out]; exact hput
   have hfar := Lib.hid (L0.out.far (p := ⟨w.heap.size + 1, (s[i]'hlt).toNat, none⟩) (by show w.heap.size ≠ w.heap.size + 1; omega) (.int .u64 ((c.getD (s[i]'hlt).toNat 0 + 1 : Nat) : Int)))
   have hbn := Lib.hid (HB.out.setCell (p := ⟨w.heap.size + 1, (s[i]'hlt).toNat, none⟩) (by show w.heap.size ≤ w.heap.size + 1; omega) (.int .u64 ((c.getD (s[i]'hlt).toNat 0 + 1 : Nat) : Int)))
   clear hput hst hle hcg hby hc HST
   generalize c.getD (s[i]'hlt).toNat 0 = m at *
   have hbi : ((s[i]'hlt).toNat : Int) < 256 := by omega
   go_wp2_with fail
   go_roundw
   case rel => exact ⟨i + 1, by omega, by go_num, hfar.out, hput2.out, hbn.out⟩
   case measure => simp [intOf]; omega
  ·have hl : s.data.toList.length = s.size := by simp
   obtain rfl : i = s.size := by omega
   rw [List.take_of_length_le (by omega)] at L1
   obtain ⟨T, hT⟩ : ∃ T, T = cells64 (cntL s.data.toList) := ⟨_, rfl⟩
   have hTl : T.length = 256 := by rw [hT, c64_length, cntL_length]
   have hone : T.toArray.all (·.oneCell') = true := by rw [hT]; exact c64_one _
   rw [← hT] at L1
   have HT := Lib.hid hT
   have hr := Lib.hid (arr_range L1.out)
   have ht := Lib.hid (arr_there L0.out (n := T.toArray.size) (HZN.out.trans (by rw [List.size_toArray, hTl])))
   have hst := Lib.hid (arr_store L0.out (L := T) (HZN.out.trans hTl.symm))
   have hi1 : (Try.prog.info? 25).map (·.size) = some T.length := by rw [hTl]; exact info64
   have hi2 : (Try.prog.info? 25).map (·.size) = some T.toArray.size := by rw [List.size_toArray, hTl]; exact info64
   have HI1 := Lib.hid hi1
   have HI2 := Lib.hid hi2
   have HONE := Lib.hid hone
   have hbz := Lib.hid (below_cellsA (Nat.le_refl w.heap.size) T 0 wr HB.out)
   clear hT hone hi1 hi2
   go_wp2_with (first | refine wpList_load_mid rfl 25 _ rfl (w.heap.size + 1) 0 rfl T _ hr.out under64 rfl HI1.out ?_ | refine wpList_store_mid rfl 25 _ _ rfl w.heap.size 0 T.toArray rfl rfl ht.out HI2.out HONE.out ?_)
   refine bodyPost_ret (v := .agg T.toArray) (results_cell_arr Try.results18 _ _ w.heap.size T _ rfl (arr_range hst.out) under64 rfl HI1.out) rfl ⟨by rw [HT.out], hbz.out⟩
theorem Try.infoBool : (Try.prog.info? 4).map (fun i => (i.zero, i.size, i.bytes)) = some (some (.bool false), 1, 1) := by kernel_rfl
theorem back_next (m : Nat) (b : Bool) (d : List Bool) : (List.replicate (m + 1) (Value.bool false) ++ cellsL d).set m (.bool b) = List.replicate m (Value.bool false) ++ cellsL (b :: d) := by
 rw [List.set_append_left _ _ (by simp), List.replicate_succ', List.set_append_right _ _ (by simp)]
 simp [cellsL]
set_option maxHeartbeats 1000000 in
set_option maxRecDepth 100000 in
theorem refBits (n c : Nat) (w : World) (hn : n < 18446744073709551616) (hc : c ≤ 64) :
  Calls Try.prog 35 #[.int .u64 n, .int .i64 c] w fun e w' => ∃ v, e = .returned v ∧ w'.ownsRow w.heap.size 4 1 v c (cellsL (bitsN n c)) ∧ Below w.heap.size w w' := by
 have hmk := fun w => run_make_row' (P := Try.prog) 71 4 (.bool false) 1 Try.underlying71 Try.infoBool rfl .i64 .i64 c (by omega) (by omega) w
 have ho0 := owns_made w 4 (.bool false) rfl c (by unfold maxLen; omega)
 have hb0 : Below w.heap.size w (w.alloc (.cells (madeCells #[Value.bool false] c) 4)) := (Below.refl _ _).alloc (Nat.le_refl _) _
 have hmk := hmk w
 have HO := Lib.hid ho0
 have hn2 : n ≤ 18446744073709551615 := by omega
 clear ho0 hn
 go_enter Try.func35, Try.ntmps35
 go_wp2
 clear hmk
 generalize w.alloc (.cells (madeCells #[Value.bool false] c) 4) = w0 at *
 obtain ⟨g, hg⟩ : ∃ g, g = w.heap.size := ⟨_, rfl⟩
 have hgl : w.heap.size ≤ g := by omega
 rw [← hg] at HO ⊢
 rw [← hg] at hb0
 clear hg
 go_loopw [0, 6] (fun x t wr => ∃ j k : Nat, j + k = c ∧ t = .int .i64 ((j : Int) - 1) ∧ x = .int .u64 (n / 2 ^ k : Nat) ∧ wr.ownsRow g 4 1 (.slice (some ⟨g, 0, none⟩) c c) c (List.replicate j (Value.bool false) ++ cellsL (bitsN n k)) ∧ Below g w wr)
  (fun _ t _ => (intOf t + 1).toNat)
 case atStart => exact ⟨c, 0, by omega, rfl, by rw [Nat.pow_zero, Nat.div_one], by simpa [bitsN, cellsL] using HO.out, hb0⟩
 case round =>
  clear HO hb0
  obtain ⟨j, k, hjk, rfl, rfl, ho, hb⟩ := hrel
  have hNl : n / 2 ^ k ≤ n := Nat.div_le_self _ _
  rcases Nat.eq_zero_or_pos j with h0 | h0
  ·subst h0
   obtain rfl : k = c := by omega
   have ho2 : World.ownsRow _ _ _ _ _ _ _ := ho
   rw [List.replicate_zero, List.nil_append] at ho2
   have HO := Lib.hid ho2
   clear ho ho2
   generalize n / 2 ^ k = N at *
   go_wp2
   go_ret
   exact ⟨_, rfl, owns_mono HO.out hgl, hb.mono hgl⟩
  ·obtain ⟨m, rfl⟩ : ∃ m, j = m + 1 := ⟨j - 1, by omega⟩
   have hj1 : ((m + 1 : Nat) : Int) - 1 = (m : Int) := by omega
   have hmc : m < c := by omega
   have hmi : (m : Int) < (c : Int) := by omega
   have hcl := owns_cell ho (k := m) (u := .bool false) (by rw [List.getElem?_append_left (by simp)]; simp)
   have hfr := owns_free ho hmc
   have hset := owns_set (u := .bool (decide (n / 2 ^ k % 2 = 1))) ho hmc
   rw [back_next] at hset
   have hnx : decide (n / 2 ^ k % 2 = 1) :: bitsN n k = bitsN n (k + 1) := rfl
   rw [hnx] at hset
   have hdv : n / 2 ^ (k + 1) = n / 2 ^ k / 2 := by rw [Nat.pow_succ, Nat.div_div_eq_div_mul]
   have hbn := hb.setCell (p := ⟨g, m, none⟩) (Nat.le_refl _) (.bool (decide (n / 2 ^ k % 2 = 1)))
   have HSET := Lib.hid hset
   have HBN := Lib.hid hbn
   have HDV := Lib.hid hdv
   have hm0 : (0 : Int) ≤ (m : Int) := by omega
   rw [hj1]
   clear ho hset hbn hdv hnx hb hj1
   generalize n / 2 ^ k = N at *
   by_cases hN : N % 2 = 1
   ·have e1 : ((N : Int) % 2 == 1) = true := by rw [beq_iff_eq]; omega
    rw [decide_eq_true hN] at HSET HBN
    clear hN
    go_wp2
    go_roundw
    case rel => exact ⟨m, k + 1, by omega, by go_num, by rw [HDV.out]; go_num, HSET.out, HBN.out⟩
    case measure => simp [intOf]
   ·have e1 : ((N : Int) % 2 == 1) = false := by rw [beq_eq_false_iff_ne]; omega
    rw [decide_eq_false hN] at HSET HBN
    clear hN
    go_wp2
    go_roundw
    case rel => exact ⟨m, k + 1, by omega, by go_num, by rw [HDV.out]; go_num, HSET.out, HBN.out⟩
    case measure => simp [intOf]
def bytesK (l : List Bool) (k : Nat) : List UInt8 := (List.range ((l.length + 7) / 8)).map fun j => UInt8.ofNat (byteN (l.take k) j)
theorem bytesK_zero (l : List Bool) : cellsB (bytesK l 0) = List.replicate ((l.length + 7) / 8) (Value.int .u8 0) := by
 unfold bytesK cellsB
 rw [List.map_map]
 apply List.ext_getElem
 ·simp
 ·intro i h1 h2
  simp [byteN, bitD]
theorem bytesK_full (l : List Bool) : bytesK l l.length = packB l := by unfold bytesK packB; rw [List.take_of_length_le (Nat.le_refl _)]
theorem bytesK_length (l : List Bool) (k : Nat) : (bytesK l k).length = (l.length + 7) / 8 := by simp [bytesK]
theorem bytesK_off {l : List Bool} {k : Nat} (h : l[k]? = some false) : bytesK l (k + 1) = bytesK l k := by
 have hk : k < l.length := (List.getElem?_eq_some_iff.1 h).1
 have hl : (l.take k).length = k := by rw [List.length_take]; omega
 unfold bytesK
 refine List.map_congr_left fun j hj => ?_
 rw [take_next h]
 by_cases e : j = (l.take k).length / 8
 ·subst e; rw [(byteN_near (l.take k) false).1]; simp
 ·rw [byteN_far _ _ _ e]
theorem bytesK_on {l : List Bool} {k : Nat} (h : l[k]? = some true) : bytesK l (k + 1) = (bytesK l k).set (k / 8) (UInt8.ofNat (byteN (l.take k) (k / 8) + 2 ^ (7 - k % 8))) ∧ byteN (l.take k) (k / 8) + 2 ^ (7 - k % 8) < 256 := by
 have hk : k < l.length := (List.getElem?_eq_some_iff.1 h).1
 have hl : (l.take k).length = k := by rw [List.length_take]; omega
 have hn := (byteN_near (l.take k) true).1
 rw [hl] at hn
 simp only [Bool.toNat_true, Nat.one_mul] at hn
 have hlt := byteN_lt (l.take k ++ [true]) (k / 8)
 refine ⟨?_, by omega⟩
 apply List.ext_getElem?
 intro j
 rw [List.getElem?_set]
 unfold bytesK
 by_cases hj : j < (l.length + 7) / 8
 ·by_cases e : k / 8 = j
  ·subst e
   rw [if_pos rfl, if_pos (by simpa using hj)]
   simp only [List.getElem?_map, List.getElem?_range hj, Option.map_some]
   rw [take_next h, hn]
  ·rw [if_neg e]
   simp only [List.getElem?_map, List.getElem?_range hj, Option.map_some]
   rw [take_next h, byteN_far _ _ _ (by rw [hl]; omega)]
 ·rw [if_neg (by omega), List.getElem?_eq_none (by simp; omega), List.getElem?_eq_none (by simp; omega)]
set_option maxHeartbeats 2000000 in
set_option maxRecDepth 100000 in
theorem refBytes (v : Value) (l : List Bool) (w : World) (h : SeqAt w v (cellsL l)) (hl : l.length ≤ 1099511627776) :
  Calls Try.prog 38 #[v] w fun e w' => e = .returned (.string (textB (packB l))) ∧ Below w.heap.size w w' := by
 have H := Lib.hid h
 obtain ⟨A, c, rfl, h1, h2, h3⟩ := h
 rw [cellsL_length] at h1 H ⊢
 unfold maxLen at h2
 clear h3
 obtain ⟨n8, hn8⟩ : ∃ n8, n8 = (l.length + 7) / 8 := ⟨_, rfl⟩
 have hmk := run_make_row' (P := Try.prog) 30 5 (.int .u8 0) 1 Try.underlying30 Try.infoU8 rfl .i64 .i64 n8 (by omega) (by omega) w
 have ho0 := owns_made w 5 (.int .u8 0) rfl n8 (by unfold maxLen; omega)
 have hb0 : Below w.heap.size w (w.alloc (.cells (madeCells #[Value.int .u8 0] n8) 5)) := (Below.refl _ _).alloc (Nat.le_refl _) _
 have hz := bytesK_zero l
 have hfull := bytesK_full l
 have hbl := bytesK_length l
 rw [← hn8] at hz hbl
 rw [← hz] at ho0
 have hdi : ((l.length : Int) + 7) / 8 = (n8 : Int) := by omega
 have HO := Lib.hid ho0
 have HFULL := Lib.hid hfull
 have HBL := Lib.hid hbl
 have hkn : ∀ k, k < l.length → k / 8 < n8 := fun k hk => by omega
 have HKN := Lib.hid hkn
 have hn8l : n8 ≤ 1099511627776 := by omega
 clear ho0 hz hfull hbl hkn hn8
 go_enter Try.func38, Try.ntmps38
 go_wp2
 clear hmk
 generalize w.alloc (.cells (madeCells #[Value.int .u8 0] n8) 5) = w0 at *
 obtain ⟨g, hg⟩ : ∃ g, g = w.heap.size := ⟨_, rfl⟩
 have hgl : w.heap.size ≤ g := by omega
 rw [← hg] at HO ⊢
 clear hg
 go_loopw [4] (fun u wr => ∃ k : Nat, k ≤ l.length ∧ u = .int .i64 k ∧ wr.ownsRow w.heap.size 5 1 (.slice (some ⟨g, 0, none⟩) n8 n8) n8 (cellsB (bytesK l k)) ∧ Below w.heap.size w wr)
  (fun u _ => l.length - (intOf u).toNat)
 case atStart => exact ⟨0, by omega, rfl, owns_mono HO.out (by omega), hb0⟩
 case round =>
  clear HO hb0
  obtain ⟨k, hk, rfl, ho, hb⟩ := hrel
  by_cases hlt : k < l.length
  ·have hki : (k : Int) < (l.length : Int) := by omega
   obtain ⟨b, hgb⟩ : ∃ b, l[k]? = some b := ⟨_, List.getElem?_eq_getElem hlt⟩
   obtain ⟨A', c', hv, _, _, hc3⟩ := H.out.later_ hb
   rw [cellsL_length] at hv
   simp only [Value.slice.injEq, true_and] at hv
   obtain ⟨rfl, rfl⟩ := hv
   obtain ⟨bb, off, rfl, c1⟩ := hc3 k _ (cellsL_get hgb)
   clear hc3
   cases b
   ·have hof := bytesK_off hgb
    rw [← hof] at ho
    have HO := Lib.hid ho
    clear hof ho hgb
    go_wp2
    go_roundw
    case rel => exact ⟨k + 1, by omega, by go_num, HO.out, hb⟩
    case measure => simp [intOf]; omega
   ·obtain ⟨hon, hlt8⟩ := bytesK_on hgb
    have hkn := HKN.out k hlt
    have hqi : (k : Int) / 8 = ((k / 8 : Nat) : Int) := by omega
    have hri : (k : Int) % 8 = ((k % 8 : Nat) : Int) := by omega
    have hr8 : k % 8 < 8 := Nat.mod_lt _ (by decide)
    have hcl := owns_cell ho (k := k / 8) (u := .int .u8 ((byteN (l.take k) (k / 8) : Nat) : Int)) (by
     unfold cellsB bytesK
     rw [List.getElem?_map, List.getElem?_map, List.getElem?_range (by have := HBL.out k; rw [bytesK_length] at this; omega)]
     simp only [Option.map_some]; rw [byte_val])
    have hfr := owns_free ho hkn
    have hset := owns_set (u := .int .u8 ((byteN (l.take k) (k / 8) + 2 ^ (7 - k % 8) : Nat) : Int)) ho hkn
    rw [cellsB_set _ _ _ hlt8, ← hon] at hset
    have hbn := hb.setCell (p := ⟨g, k / 8, none⟩) hgl (.int .u8 ((byteN (l.take k) (k / 8) + 2 ^ (7 - k % 8) : Nat) : Int))
    have HSET := Lib.hid hset
    have HBN := Lib.hid hbn
    clear hset hbn hgb ho hb hon
    generalize byteN (l.take k) (k / 8) = bv at *
    generalize k / 8 = q at *
    generalize k % 8 = r at *
    have hqn : (q : Int) < (n8 : Int) := by omega
    go_wp2
    go_loopw [5, 6] (fun x y wq => ∃ j : Nat, j ≤ r ∧ y = .int .i64 j ∧ x = .int .u8 (2 ^ (7 - j) : Nat) ∧ wq = wr) (fun _ y _ => r - (intOf y).toNat)
    case atStart => exact ⟨0, by omega, rfl, rfl, rfl⟩
    case round =>
     obtain ⟨j, hj, rfl, rfl, hwq⟩ := hrel
     subst hwq
     by_cases hjr : j < r
     ·have hji : (j : Int) < (r : Int) := by omega
      have hjn : decide (j < r) = true := by simpa using hjr
      have hp : 2 ^ (7 - j) = 2 ^ (7 - (j + 1)) * 2 := by rw [← Nat.pow_succ]; congr 1; omega
      have hp7 : 2 ^ (7 - (j + 1)) ≤ 2 ^ 7 := Nat.pow_le_pow_right (by decide) (by omega)
      have HP := Lib.hid hp
      obtain ⟨U, hU⟩ : ∃ U, U = 2 ^ (7 - (j + 1)) := ⟨_, rfl⟩
      rw [hp, ← hU]
      rw [← hU] at hp7
      have HU := Lib.hid hU
      have hU2 : (((U * 2 : Nat) : Int)) / 2 = (U : Int) := by omega
      have hU3 : U * 2 ≤ 256 := by omega
      have hU4 : (U : Int) ≤ 128 := by omega
      clear hp hU hp7
      go_wp2
      go_roundw
      case rel => exact ⟨j + 1, by omega, by go_num, by rw [← HU.out], trivial⟩
      case measure => simp [intOf]; omega
     ·obtain rfl : j = r := by omega
      have hjn : decide (j < j) = false := by simp
      have hp7 : 2 ^ (7 - j) ≤ 2 ^ 7 := Nat.pow_le_pow_right (by decide) (by omega)
      obtain ⟨U, hU⟩ : ∃ U, U = 2 ^ (7 - j) := ⟨_, rfl⟩
      rw [← hU] at HSET HBN hlt8
      rw [← hU]
      have hu8 : IntKind.u8.wrap ((bv : Int) + (U : Int)) = ((bv + U : Nat) : Int) := by rw [IntKind.wrap_u8]; omega
      clear hU hp7
      go_wp2
      go_roundw
      case rel => exact ⟨k + 1, by omega, by go_num, HSET.out, HBN.out⟩
      case measure => simp [intOf]; omega
  ·obtain rfl : k = l.length := by omega
   rw [HFULL.out] at ho
   have hcv := convert_owned _ _ _ (packB l) n8 (by have := HBL.out l.length; rw [HFULL.out] at this; exact this.symm) ho
   clear ho
   go_wp2
   go_ret
   exact ⟨rfl, hb⟩
set_option maxHeartbeats 4000000 in
set_option maxRecDepth 100000 in
theorem refHuffPack (s : ByteArray) (w : World) (hs : s.size ≤ 2000) :
  Calls Try.prog 20 #[.string s] w fun e w' => e = .returned (.string (textB (pkT s.data.toList))) ∧ Below w.heap.size w w' := by
 have hsl : s.data.toList.length = s.size := by simp
 have hcnt := fun w => refCount s w (by omega)
 have hwok : WOk (cntL s.data.toList) := ⟨cntL_length _, fun n hn => by have := cntL_le _ n hn; omega⟩
 have hlen := fun w => refLengths (cntL s.data.toList) w hwok
 have hll : (lnT s.data.toList).length = 256 := lensW_length _ (cntL_length _)
 have hl256 : ∀ x ∈ lnT s.data.toList, x < 256 := lensW_lt _
 have hs2 : s.data.toList.length ≤ 2000 := by rw [hsl]; exact hs
 have hl56 : ∀ x ∈ lnT s.data.toList, x ≤ 56 := lens_text _ hs2
 have hcds := fun w => refCodes (lnT s.data.toList) w ⟨hll, hl56⟩
 rw [← text_codes _ hs2] at hcds
 have hcl : (cdT s.data.toList).length = 256 := cdsOf_length _
 have hclt : ∀ x ∈ cdT s.data.toList, x < 18446744073709551616 := cdsOf_lt _
 change ∀ w, Calls Try.prog _ #[.agg (cells64 (cntL s.data.toList)).toArray] w fun e w' => e = .returned (.agg (c8 (lnT s.data.toList)).toArray) ∧ Below w.heap.size w w' at hlen
 have HPK : Hid (pkT s.data.toList = enc s.data.toList.length ++ (printR (lnT s.data.toList) ++ packB (pkB (cdT s.data.toList) (lnT s.data.toList) s.data.toList))) := rfl
 obtain ⟨ls, hls⟩ : ∃ ls, ls = lnT s.data.toList := ⟨_, rfl⟩
 obtain ⟨cd, hcd⟩ : ∃ cd, cd = cdT s.data.toList := ⟨_, rfl⟩
 rw [← hls] at hlen hll hl56 hcds HPK
 rw [← hcd] at hcds hcl hclt HPK
 clear hls hcd hs2 hl256
 obtain ⟨L, hL⟩ : ∃ L, L = c8 ls := ⟨_, rfl⟩
 obtain ⟨D, hD⟩ : ∃ D, D = cells64 cd := ⟨_, rfl⟩
 obtain ⟨N, hN⟩ : ∃ N, N = cells64 (cntL s.data.toList) := ⟨_, rfl⟩
 have hLl : L.length = 256 := by rw [hL, c8_length, hll]
 have hDl : D.length = 256 := by rw [hD, c64_length, hcl]
 have hL1 : L.toArray.all (·.oneCell') = true := by rw [hL]; exact c8_one _
 have hD1 : D.toArray.all (·.oneCell') = true := by rw [hD]; exact c64_one _
 rw [← hL] at hlen hcds
 rw [← hD] at hcds
 rw [← hN] at hlen hcnt
 obtain ⟨z8, hz8⟩ : ∃ z : Array Value, z = Array.replicate 256 (.int .u8 0) := ⟨_, rfl⟩
 obtain ⟨z6, hz6⟩ : ∃ z : Array Value, z = Array.replicate 256 (.int .u64 0) := ⟨_, rfl⟩
 have hzz8 := zero8
 have hzz6 := zero64
 rw [← hz8] at hzz8
 rw [← hz6] at hzz6
 have hn8 : z8.size = 256 := by rw [hz8, Array.size_replicate]
 have hn6 : z6.size = 256 := by rw [hz6, Array.size_replicate]
 have hiL : (Try.prog.info? 27).map (·.size) = some L.length := by rw [hLl]; exact info8
 have hiL2 : (Try.prog.info? 27).map (·.size) = some L.toArray.size := by rw [List.size_toArray, hLl]; exact info8
 have hiD2 : (Try.prog.info? 25).map (·.size) = some D.toArray.size := by rw [List.size_toArray, hDl]; exact info64
 have HIL := Lib.hid hiL
 have HIL2 := Lib.hid hiL2
 have HID2 := Lib.hid hiD2
 have HLEN := Lib.hid hlen
 have HCDS := Lib.hid hcds
 have HCNT := Lib.hid hcnt
 have HL := Lib.hid hL
 have HD := Lib.hid hD
 have HL1 := Lib.hid hL1
 have HD1 := Lib.hid hD1
 have HLL := Lib.hid hll
 have HCL := Lib.hid hcl
 have H256 := Lib.hid hl56
 have HCLT := Lib.hid hclt
 have HLl := Lib.hid hLl
 have HDl := Lib.hid hDl
 have HN8 := Lib.hid hn8
 have HN6 := Lib.hid hn6
 have HSL := Lib.hid hsl
 clear hlen hcds hcnt hL hD hL1 hD1 hll hcl hl56 hclt hLl hDl hiL hiL2 hiD2 hz8 hz6 hn8 hn6 hwok hN hsl
 go_enter Try.func20, Try.ntmps20
 go_wp2_with fail
 refine (HCNT.out w).mono ?_
 rintro e w1 ⟨rfl, hb1⟩
 go_wp2_with fail
 refine (HLEN.out w1).mono ?_
 rintro e w2 ⟨rfl, hb2⟩
 have hb02 := hb1.trans (hb2.mono hb1.size)
 have hz2 : w.heap.size ≤ w2.heap.size := hb02.size
 have ht2 := arr_there (Lies.made w2 27 z8) (n := L.toArray.size) (HN8.out.trans (by rw [List.size_toArray, HLl.out]))
 have ls3 := arr_store (Lies.made w2 27 z8) (L := L) (HN8.out.trans HLl.out.symm)
 have hk3 := (Kept.alloc (oneRow w2.heap.size) w2 (.cells z8 27)).trans (kept_cellsH L 0 _ (g := w2.heap.size)) (fun _ _ h => h)
 have hb03 := hb02.trans (hk3.below (B := w.heap.size) hz2 (fun k hk e => by have h1 : k = w2.heap.size := e; omega))
 have hz3 := size_setCells w2.heap.size L 0 (w2.alloc (.cells z8 27))
 rw [show (w2.alloc (.cells z8 27)).heap.size = w2.heap.size + 1 by simp] at hz3
 have HT2 := Lib.hid ht2
 have LS3 := Lib.hid ls3
 have HR3 := Lib.hid (arr_range ls3)
 have HB3 := Lib.hid hb03
 have HZ3 := Lib.hid hz3
 clear hb1 hb2 hb02 ht2 ls3 hk3 hb03 hz3 HCNT HLEN
 go_wp2_with (first | refine wpList_store_mid rfl 27 _ _ rfl w2.heap.size 0 L.toArray rfl rfl HT2.out HIL2.out HL1.out ?_ | refine wpList_load_mid rfl 27 _ rfl w2.heap.size 0 rfl L _ HR3.out under8 rfl HIL.out ?_)
 obtain ⟨gL, hgL⟩ : ∃ gL, gL = w2.heap.size := ⟨_, rfl⟩
 generalize (w2.alloc (.cells z8 27)).setCells w2.heap.size 0 L = w3 at *
 rw [← hgL] at LS3 HR3 HZ3 hz2 ⊢
 clear hgL HT2
 refine (HCDS.out w3).mono ?_
 rintro e w4 ⟨rfl, hb4⟩
 have hz34 : gL + 1 ≤ w4.heap.size := by have := hb4.size; rw [HZ3.out] at this; exact this
 have LS4 := Lib.hid (LS3.out.below hb4 (by rw [HZ3.out]; omega))
 have HB4 := Lib.hid (HB3.out.trans (hb4.mono (by rw [HZ3.out]; omega)))
 have ht4 := arr_there (Lies.made w4 25 z6) (n := D.toArray.size) (HN6.out.trans (by rw [List.size_toArray, HDl.out]))
 have lc5 := arr_store (Lies.made w4 25 z6) (L := D) (HN6.out.trans HDl.out.symm)
 have hk5 := (Kept.alloc (oneRow w4.heap.size) w4 (.cells z6 25)).trans (kept_cellsH D 0 _ (g := w4.heap.size)) (fun _ _ h => h)
 have hb5 := HB4.out.trans (hk5.below (B := w.heap.size) (by omega) (fun k hk e => by have h1 : k = w4.heap.size := e; omega))
 have hz5 := size_setCells w4.heap.size D 0 (w4.alloc (.cells z6 25))
 rw [show (w4.alloc (.cells z6 25)).heap.size = w4.heap.size + 1 by simp] at hz5
 have LS5 := Lib.hid (LS4.out.kept hk5 (fun e => by have h1 : gL = w4.heap.size := e; omega))
 have HT4 := Lib.hid ht4
 have LC5 := Lib.hid lc5
 have HB5 := Lib.hid hb5
 clear hb4 ht4 lc5 hk5 hb5 LS3 HB3 HZ3 HR3 LS4 HB4
 go_wp2_with (refine wpList_store_mid rfl 25 _ _ rfl w4.heap.size 0 D.toArray rfl rfl HT4.out HID2.out HD1.out ?_)
 obtain ⟨gC, hgC⟩ : ∃ gC, gC = w4.heap.size := ⟨_, rfl⟩
 generalize (w4.alloc (.cells z6 25)).setCells w4.heap.size 0 D = w5 at *
 rw [← hgC] at LC5 hz5 hz34 ⊢
 clear hgC HT4
 obtain ⟨B5, hB5⟩ : ∃ B5, B5 = w5.heap.size := ⟨_, rfl⟩
 have HB5e := Lib.hid hB5
 have hBw : w.heap.size ≤ B5 := by rw [hB5]; exact HB5.out.size
 clear hB5
 have HPR := Lib.hid (fun (wx : World) (v : Value) (hv : SeqAt wx v (cells64 ls)) => refPrint4 v ls wx hv (by rw [HLL.out]; decide) (fun n hn => by have := H256.out n hn; unfold M64; omega))
 go_wp2_with fail
 go_loopw [5, 6] (fun v c wr => ∃ i : Nat, i ≤ 256 ∧ c = .int .i64 i ∧ Hid (wr.ownsRow B5 24 1 v i (cells64 (ls.take i))) ∧ Hid (Below B5 w5 wr)) (fun _ c _ => 256 - (intOf c).toNat)
 case atStart => exact ⟨0, by omega, rfl, World.ownsRow_nil _ _ _ _, Below.refl _ _⟩
 case round =>
  obtain ⟨i, hi, rfl, ho, hb⟩ := hrel
  have hbs : B5 ≤ wr.heap.size := by rw [HB5e.out]; exact hb.out.size
  by_cases hlt : i < 256
  ·have hii : (i : Int) < 256 := by omega
   obtain ⟨n, hn⟩ : ∃ n, ls[i]? = some n := ⟨_, List.getElem?_eq_getElem (by rw [HLL.out]; exact hlt)⟩
   have hn56 := H256.out n (List.mem_of_getElem? hn)
   have k1 : wr.cell? ⟨gL, i, none⟩ = some (.int .u8 (n : Int)) := ((LS5.out.below hb.out (by rw [HB5e.out]; exact LS5.out.lt)).cell i).trans (by rw [List.getElem?_toArray, HL.out]; exact c8_get hn)
   have en : IntKind.u64.wrap (n : Int) = (n : Int) := by rw [IntKind.wrap_u64]; omega
   have htk : cells64 (ls.take (i + 1)) = cells64 (ls.take i) ++ [.int .u64 (n : Int)] := by rw [List.take_add_one, hn]; simp [cells64]
   have HTK := Lib.hid htk
   obtain ⟨A5, c5, rfl⟩ := own_sl ho.out
   clear hn htk
   go_wp2_with (at_builtin; refine append_one wr (.int .u64 (n : Int)) rfl (.tmp 18) (.tmp 23) 22 rfl B5 24 _ _ Try.underlying22 Try.infoU64 rfl rfl _ _ _ rfl ho.out rfl (by unfold maxLen; omega) (by omega) hbs ?_)
   intro v' w7 ho7 hb7 hgr
   rw [← HTK.out] at ho7
   have HO7 := Lib.hid ho7
   have HB7 := Lib.hid (hb.out.trans hb7)
   clear ho7 hb7 hgr k1 ho hb
   go_wp2
   go_roundw
   case rel => exact ⟨i + 1, by omega, by go_num, HO7, HB7⟩
   case measure => simp [intOf]; omega
  ·obtain rfl : i = 256 := by omega
   rw [show ((256 : Nat) : Int) = 256 from rfl]
   have ho2 := ho.out
   rw [List.take_of_length_le (by rw [HLL.out]; exact Nat.le_refl _)] at ho2
   have HALL := Lib.hid ho2
   obtain ⟨A5, c5, rfl⟩ := own_sl ho2
   have LS7 := Lib.hid (LS5.out.below hb.out (by rw [HB5e.out]; exact LS5.out.lt))
   have LC7 := Lib.hid (LC5.out.below hb.out (by rw [HB5e.out]; exact LC5.out.lt))
   have HB7 := Lib.hid (HB5.out.trans (hb.out.mono hBw))
   have hz7 : w.heap.size ≤ wr.heap.size := HB7.out.size
   have hg1 := LS7.out.lt
   have hg2 := LC7.out.lt
   clear ho ho2 hb LS5 LC5 HB5 hz5 hz34 hz2 hbs
   generalize hw7 : wr = w7 at *
   clear hw7
   go_wp2_with fail
   go_loopw [7, 8] (fun v c wq => ∃ i : Nat, i ≤ s.size ∧ c = .int .i64 i ∧ Hid (wq.ownsRow w7.heap.size 4 1 v (pkB cd ls (s.data.toList.take i)).length (cellsL (pkB cd ls (s.data.toList.take i)))) ∧ Hid (Below w7.heap.size w7 wq)) (fun _ c _ => s.size - (intOf c).toNat)
   case atStart => exact ⟨0, by omega, rfl, World.ownsRow_nil _ _ _ _, Below.refl _ _⟩
   case round =>
    obtain ⟨i, hi, rfl, ho, hb⟩ := hrel
    have hbs := hb.out.size
    by_cases hlt : i < s.size
    ·have hii : (i : Int) < (s.size : Int) := by omega
     have hby := byte_of s i hlt
     have htk := pkB_take (cds := cd) (lens := ls) hby
     have hple := pkB_le cd ls (s.data.toList.take i)
     rw [List.length_take, HSL.out, Nat.min_eq_left (by omega)] at hple
     have hblt := (s[i]'hlt).toNat_lt
     obtain ⟨bq, hbq⟩ : ∃ bq, bq = (s[i]'hlt).toNat := ⟨_, rfl⟩
     obtain ⟨n, hn⟩ : ∃ n, ls[bq]? = some n := ⟨_, List.getElem?_eq_getElem (by rw [HLL.out, hbq]; exact hblt)⟩
     obtain ⟨m, hm⟩ : ∃ m, cd[bq]? = some m := ⟨_, List.getElem?_eq_getElem (by rw [HCL.out, hbq]; exact hblt)⟩
     have hn56 := H256.out n (List.mem_of_getElem? hn)
     have hm64 := HCLT.out m (List.mem_of_getElem? hm)
     rw [← hbq, getD_of hn, getD_of hm] at htk
     have hpn : putL m n = bitsN m n := by unfold putL; rw [if_pos (by omega)]
     rw [hpn] at htk
     have k1 : wr.cell? ⟨gL, bq, none⟩ = some (.int .u8 (n : Int)) := ((LS7.out.below hb.out LS7.out.lt).cell bq).trans (by rw [List.getElem?_toArray, HL.out]; exact c8_get hn)
     have k2 : wr.cell? ⟨gC, bq, none⟩ = some (.int .u64 (m : Int)) := ((LC7.out.below hb.out LC7.out.lt).cell bq).trans (by rw [List.getElem?_toArray, HD.out]; exact c64_get'' hm)
     have k1' := k1
     have k2' := k2
     rw [hbq] at k1 k2
     have hbi : ((s[i]'hlt).toNat : Int) < 256 := by omega
     have en : IntKind.i64.wrap (n : Int) = (n : Int) := by rw [IntKind.wrap_i64]; omega
     have HTK := Lib.hid htk
     clear hn hm htk hby hpn
     obtain ⟨pl, hpl⟩ : ∃ pl, pl = pkB cd ls (s.data.toList.take i) := ⟨_, rfl⟩
     rw [← hpl] at hple ho
     have HPL := Lib.hid hpl
     clear hpl
     obtain ⟨A7, c7, rfl⟩ := own_sl ho.out
     have hg1w : gL < wr.heap.size := by omega
     have hg2w : gC < wr.heap.size := by omega
     have hpb : ∀ u ∈ cellsL (bitsN m n), u.oneCell' = true := fun u hu => by
      unfold cellsL at hu
      obtain ⟨b, _, rfl⟩ := List.mem_map.1 hu
      rfl
     have hno : ∀ r, (Value.slice A7 pl.length c7).ownBlock = some r → w7.heap.size ≤ r := fun r hr => (own_lt ho.out hr).1
     have HHK := Lib.hid (fun q (k : Kept (fun r => (Value.slice A7 pl.length c7).ownBlock = some r) wr q) => And.intro ((cell_keptN (i := bq) k (b := gC) (by omega) (fun e => by have := hno _ e; omega)).trans k2') (And.intro ((cell_keptN (i := bq) k (b := gL) (by omega) (fun e => by have := hno _ e; omega)).trans k1') (And.intro (Nat.lt_of_lt_of_le hg2w k.size) (Nat.lt_of_lt_of_le hg1w k.size))))
     clear k1 k2 k1' k2'
     rw [hbq] at HHK
     obtain ⟨N7, hN7⟩ : ∃ N7, N7 = w7.heap.size := ⟨_, rfl⟩
     have HN7 := Lib.hid hN7
     rw [← hN7] at ho hno hbs hg1 hg2
     clear hN7 hbq
     go_wp2_with fail
     refine wp_region_rely (fun q => Kept (fun r => (Value.slice A7 pl.length c7).ownBlock = some r) wr q) (bfV [.eq (.slice A7 pl.length c7), .eq (.string s), .eq (.int .i64 (i : Int)), .eq (.int .u8 ((s[i]'hlt).toNat : Int)), .eq (.pointer (some ⟨gC, (s[i]'hlt).toNat, none⟩)), .eq (.int .u64 (m : Int)), .eq (.string s), .eq (.int .i64 (i : Int)), .eq (.int .u8 ((s[i]'hlt).toNat : Int)), .eq (.pointer (some ⟨gL, (s[i]'hlt).toNat, none⟩)), .eq (.int .u8 (n : Int)), .eq (.int .i64 (n : Int)), .own wr.heap.size 4 1 n (cellsL (bitsN m n)), .own N7 4 1 (pl.length + n) (cellsL pl ++ cellsL (bitsN m n)), .own N7 4 1 (pl.length + n) (cellsL pl ++ cellsL (bitsN m n)), .of (fun _ q => q.ownsRow N7 4 1 (.slice A7 pl.length c7) pl.length (cellsL pl)) (fun _ _ _ hb h1 => owned_below h1 hb)]) [some 31, some 32, some 33, some 34, some 35, some 36, some 37, some 38, some 39, some 40, some 41, some 42, some 43, some 44, some 7] [[], [], [], [1, 2], [3], [4], [], [], [6, 7], [8], [9], [10], [5, 11], [0, 12, 15], [13]] [[], [], [], [1, 2], [1, 2, 3], [3, 4], [], [], [6, 7], [6, 7, 8], [8, 9], [9, 10], [4, 5, 10, 11], [0, 5, 11, 12, 15], [0, 1, 2, 3, 4, 5, 6, 7, 8, 9, 10, 11, 12, 13, 15]] [[1, 2, 3, 4, 5, 6, 7, 8, 9, 10, 11, 12, 15], [0, 2, 4, 5, 6, 7, 8, 9, 10, 11, 12, 13, 15], [0, 1, 4, 5, 6, 7, 8, 9, 10, 11, 12, 13, 15], [0, 5, 6, 7, 8, 9, 10, 11, 12, 13, 15], [0, 6, 7, 8, 9, 10, 11, 12, 13, 15], [0, 6, 7, 8, 9, 10, 11, 13, 15], [0, 1, 2, 3, 4, 5, 7, 9, 10, 11, 12, 13, 15], [0, 1, 2, 3, 4, 5, 6, 9, 10, 11, 12, 13, 15], [0, 1, 2, 3, 4, 5, 10, 11, 12, 13, 15], [0, 1, 2, 3, 4, 5, 11, 12, 13, 15], [0, 1, 2, 3, 4, 5, 12, 13, 15], [0, 1, 2, 3, 4, 5, 6, 7, 13, 15], [0, 1, 2, 6, 7, 8, 15], [1, 2, 3, 6, 7, 8, 9], []] [0, 1, 2, 3, 4, 5, 6, 7, 8, 9, 10, 11, 12, 13, 14] 16 (by kernel_rfl) (by kernel_rfl) (by kernel_rfl) (by kernel_rfl) ?rS ?rI ?rT ?rE
     case rS => exact Kept.drewN _ _ 1
     case rI =>
      intro j h1 h2
      have h2 : 15 ≤ j := h2
      obtain rfl : j = 15 := by omega
      exact owned_drewN ho.out 1
     case rT =>
      refine RelySteps.cons (RelyStep.mk [] [1, 2, 3, 4, 5, 6, 7, 8, 9, 10, 11, 12, 15] rfl rfl rfl (fun xv wS hS hV bq hb K hK => ?_)) ?_
      ·clear hV
       simp only [putsOf, List.foldl_cons, List.foldl_nil, List.getD_cons_zero, List.getD_cons_succ, List.getD_nil, cond_true, cond_false, Act.put, List.setIfInBounds_toArray, List.set_cons_zero, List.set_cons_succ] at hb
       subst hb
       rw [if_pos (by rfl)]
       go_wp2_with fail
       exact hK.out _ _ ⟨_, rfl, hS, rfl, AllP.same _⟩
      refine RelySteps.cons (RelyStep.mk [] [0, 2, 4, 5, 6, 7, 8, 9, 10, 11, 12, 13, 15] rfl rfl rfl (fun xv wS hS hV bq hb K hK => ?_)) ?_
      ·clear hV
       simp only [putsOf, List.foldl_cons, List.foldl_nil, List.getD_cons_zero, List.getD_cons_succ, List.getD_nil, cond_true, cond_false, Act.put, List.setIfInBounds_toArray, List.set_cons_zero, List.set_cons_succ] at hb
       subst hb
       rw [if_pos (by rfl)]
       go_wp2_with fail
       exact hK.out _ _ ⟨_, rfl, hS, rfl, AllP.same _⟩
      refine RelySteps.cons (RelyStep.mk [] [0, 1, 4, 5, 6, 7, 8, 9, 10, 11, 12, 13, 15] rfl rfl rfl (fun xv wS hS hV bq hb K hK => ?_)) ?_
      ·clear hV
       simp only [putsOf, List.foldl_cons, List.foldl_nil, List.getD_cons_zero, List.getD_cons_succ, List.getD_nil, cond_true, cond_false, Act.put, List.setIfInBounds_toArray, List.set_cons_zero, List.set_cons_succ] at hb
       subst hb
       rw [if_pos (by rfl)]
       go_wp2_with fail
       exact hK.out _ _ ⟨_, rfl, hS, rfl, AllP.same _⟩
      refine RelySteps.cons (RelyStep.mk [1, 2] [0, 5, 6, 7, 8, 9, 10, 11, 12, 13, 15] rfl rfl rfl (fun xv wS hS hV bq hb K hK => ?_)) ?_
      ·obtain ⟨h1, h2, _⟩ := hV
       have h1 : xv 1 = _ := h1
       have h2 : xv 2 = _ := h2
       simp only [putsOf, List.foldl_cons, List.foldl_nil, List.getD_cons_zero, List.getD_cons_succ, List.getD_nil, cond_true, cond_false, Act.put, List.setIfInBounds_toArray, List.set_cons_zero, List.set_cons_succ, h1, h2] at hb
       clear h1
       clear h2
       subst hb
       rw [if_pos (by rfl)]
       go_wp2_with fail
       exact hK.out _ _ ⟨_, rfl, hS, rfl, AllP.same _⟩
      refine RelySteps.cons (RelyStep.mk [3] [0, 6, 7, 8, 9, 10, 11, 12, 13, 15] rfl rfl rfl (fun xv wS hS hV bq hb K hK => ?_)) ?_
      ·obtain ⟨h3, _⟩ := hV
       have h3 : xv 3 = _ := h3
       simp only [putsOf, List.foldl_cons, List.foldl_nil, List.getD_cons_zero, List.getD_cons_succ, List.getD_nil, cond_true, cond_false, Act.put, List.setIfInBounds_toArray, List.set_cons_zero, List.set_cons_succ, h3] at hb
       clear h3
       subst hb
       rw [if_pos (by rfl)]
       go_wp2_with fail
       exact hK.out _ _ ⟨_, rfl, hS, rfl, AllP.same _⟩
      refine RelySteps.cons (RelyStep.mk [4] [0, 6, 7, 8, 9, 10, 11, 13, 15] rfl rfl rfl (fun xv wS hS hV bq hb K hK => ?_)) ?_
      ·obtain ⟨h4, _⟩ := hV
       have h4 : xv 4 = _ := h4
       simp only [putsOf, List.foldl_cons, List.foldl_nil, List.getD_cons_zero, List.getD_cons_succ, List.getD_nil, cond_true, cond_false, Act.put, List.setIfInBounds_toArray, List.set_cons_zero, List.set_cons_succ, h4] at hb
       clear h4
       subst hb
       rw [if_pos (by rfl)]
       (obtain ⟨q1, q2, q3, q4⟩ := HHK.out wS hS)
       go_wp2_with fail
       exact hK.out _ _ ⟨_, rfl, hS, rfl, AllP.same _⟩
      refine RelySteps.cons (RelyStep.mk [] [0, 1, 2, 3, 4, 5, 7, 9, 10, 11, 12, 13, 15] rfl rfl rfl (fun xv wS hS hV bq hb K hK => ?_)) ?_
      ·clear hV
       simp only [putsOf, List.foldl_cons, List.foldl_nil, List.getD_cons_zero, List.getD_cons_succ, List.getD_nil, cond_true, cond_false, Act.put, List.setIfInBounds_toArray, List.set_cons_zero, List.set_cons_succ] at hb
       subst hb
       rw [if_pos (by rfl)]
       go_wp2_with fail
       exact hK.out _ _ ⟨_, rfl, hS, rfl, AllP.same _⟩
      refine RelySteps.cons (RelyStep.mk [] [0, 1, 2, 3, 4, 5, 6, 9, 10, 11, 12, 13, 15] rfl rfl rfl (fun xv wS hS hV bq hb K hK => ?_)) ?_
      ·clear hV
       simp only [putsOf, List.foldl_cons, List.foldl_nil, List.getD_cons_zero, List.getD_cons_succ, List.getD_nil, cond_true, cond_false, Act.put, List.setIfInBounds_toArray, List.set_cons_zero, List.set_cons_succ] at hb
       subst hb
       rw [if_pos (by rfl)]
       go_wp2_with fail
       exact hK.out _ _ ⟨_, rfl, hS, rfl, AllP.same _⟩
      refine RelySteps.cons (RelyStep.mk [6, 7] [0, 1, 2, 3, 4, 5, 10, 11, 12, 13, 15] rfl rfl rfl (fun xv wS hS hV bq hb K hK => ?_)) ?_
      ·obtain ⟨h6, h7, _⟩ := hV
       have h6 : xv 6 = _ := h6
       have h7 : xv 7 = _ := h7
       simp only [putsOf, List.foldl_cons, List.foldl_nil, List.getD_cons_zero, List.getD_cons_succ, List.getD_nil, cond_true, cond_false, Act.put, List.setIfInBounds_toArray, List.set_cons_zero, List.set_cons_succ, h6, h7] at hb
       clear h6
       clear h7
       subst hb
       rw [if_pos (by rfl)]
       go_wp2_with fail
       exact hK.out _ _ ⟨_, rfl, hS, rfl, AllP.same _⟩
      refine RelySteps.cons (RelyStep.mk [8] [0, 1, 2, 3, 4, 5, 11, 12, 13, 15] rfl rfl rfl (fun xv wS hS hV bq hb K hK => ?_)) ?_
      ·obtain ⟨h8, _⟩ := hV
       have h8 : xv 8 = _ := h8
       simp only [putsOf, List.foldl_cons, List.foldl_nil, List.getD_cons_zero, List.getD_cons_succ, List.getD_nil, cond_true, cond_false, Act.put, List.setIfInBounds_toArray, List.set_cons_zero, List.set_cons_succ, h8] at hb
       clear h8
       subst hb
       rw [if_pos (by rfl)]
       go_wp2_with fail
       exact hK.out _ _ ⟨_, rfl, hS, rfl, AllP.same _⟩
      refine RelySteps.cons (RelyStep.mk [9] [0, 1, 2, 3, 4, 5, 12, 13, 15] rfl rfl rfl (fun xv wS hS hV bq hb K hK => ?_)) ?_
      ·obtain ⟨h9, _⟩ := hV
       have h9 : xv 9 = _ := h9
       simp only [putsOf, List.foldl_cons, List.foldl_nil, List.getD_cons_zero, List.getD_cons_succ, List.getD_nil, cond_true, cond_false, Act.put, List.setIfInBounds_toArray, List.set_cons_zero, List.set_cons_succ, h9] at hb
       clear h9
       subst hb
       rw [if_pos (by rfl)]
       (obtain ⟨q1, q2, q3, q4⟩ := HHK.out wS hS)
       go_wp2_with fail
       exact hK.out _ _ ⟨_, rfl, hS, rfl, AllP.same _⟩
      refine RelySteps.cons (RelyStep.mk [10] [0, 1, 2, 3, 4, 5, 6, 7, 13, 15] rfl rfl rfl (fun xv wS hS hV bq hb K hK => ?_)) ?_
      ·obtain ⟨h10, _⟩ := hV
       have h10 : xv 10 = _ := h10
       simp only [putsOf, List.foldl_cons, List.foldl_nil, List.getD_cons_zero, List.getD_cons_succ, List.getD_nil, cond_true, cond_false, Act.put, List.setIfInBounds_toArray, List.set_cons_zero, List.set_cons_succ, h10] at hb
       clear h10
       subst hb
       rw [if_pos (by rfl)]
       go_wp2_with fail
       exact hK.out _ _ ⟨_, rfl, hS, rfl, AllP.same _⟩
      refine RelySteps.cons (RelyStep.mk [5, 11] [0, 1, 2, 6, 7, 8, 15] rfl rfl rfl (fun xv wS hS hV bq hb K hK => ?_)) ?_
      ·obtain ⟨h5, h11, _⟩ := hV
       have h5 : xv 5 = _ := h5
       have h11 : xv 11 = _ := h11
       simp only [putsOf, List.foldl_cons, List.foldl_nil, List.getD_cons_zero, List.getD_cons_succ, List.getD_nil, cond_true, cond_false, Act.put, List.setIfInBounds_toArray, List.set_cons_zero, List.set_cons_succ, h5, h11] at hb
       clear h5
       clear h11
       subst hb
       rw [if_pos (by rfl)]
       have HSS := Lib.hid hS
       clear hS
       go_wp2_with fail
       refine (refBits m n wS hm64 (by omega)).mono ?_
       rintro e w9 ⟨v, rfl, ho9, hb9⟩
       exact hK.out _ _ ⟨_, rfl, HSS.out.trans (Kept.of_below hb9) (fun _ _ hf => hf.elim), owns_base ho9 HSS.out.size, AllP.of _ (fun j _ u h => bfV_below hb9 h)⟩
      refine RelySteps.cons (RelyStep.mk [0, 12, 15] [1, 2, 3, 6, 7, 8, 9] rfl rfl rfl (fun xv wS hS hV bq hb K hK => ?_)) ?_
      ·obtain ⟨h0, h12, h15, _⟩ := hV
       have h0 : xv 0 = _ := h0
       simp only [putsOf, List.foldl_cons, List.foldl_nil, List.getD_cons_zero, List.getD_cons_succ, List.getD_nil, cond_true, cond_false, Act.put, List.setIfInBounds_toArray, List.set_cons_zero, List.set_cons_succ, h0] at hb
       clear h0
       generalize xv 12 = y12 at *
       generalize xv 15 = y15 at *
       subst hb
       rw [if_pos (by rfl)]
       have HSS := Lib.hid hS
       have h12' : wS.ownsRow wr.heap.size 4 1 y12 n (cellsL (bitsN m n)) := h12
       have h15' : wS.ownsRow N7 4 1 (.slice A7 pl.length c7) pl.length (cellsL pl) := h15
       obtain ⟨A9, c9, rfl⟩ := own_sl h12'
       clear hS h12 h15
       refine step_list (ops := #[]) (by rfl) (append_argS wS 1 rfl (.tmp 31) (.tmp 43) 71 rfl N7 4 _ 1 Try.underlying71 Try.infoBool rfl (by decide) (.slice A7 pl.length c7) pl.length (cellsL pl) rfl h15' A9 n c9 rfl (cellsL (bitsN m n)) (SeqS.of_owns h12') hpb (by unfold maxLen; omega) (by omega) (Nat.le_trans hbs HSS.out.size) ?_)
       intro v' w9 ho9 hb9 hgr
       exact hK.out _ _ ⟨_, rfl, HSS.out.trans (Kept.of_grown hgr) (fun _ _ h => h), ho9, AllP.of _ (fun j hj u h => bfV_lit rfl hj h)⟩
      refine RelySteps.cons (RelyStep.mk [13] [] rfl rfl rfl (fun xv wS hS hV bq hb K hK => ?_)) ?_
      ·obtain ⟨h13, _⟩ := hV
       simp only [putsOf, List.foldl_cons, List.foldl_nil, List.getD_cons_zero, List.getD_cons_succ, List.getD_nil, cond_true, cond_false, Act.put, List.setIfInBounds_toArray, List.set_cons_zero, List.set_cons_succ] at hb
       generalize xv 13 = y13 at *
       subst hb
       rw [if_pos (by rfl)]
       have HSS := Lib.hid hS
       have H13 := Lib.hid h13
       clear hS h13
       go_wp2_with fail
       exact hK.out _ _ ⟨_, rfl, HSS.out, H13.out, AllP.same _⟩
      exact RelySteps.nil
     case rE =>
      intro xv wE hS hV
      have h14 := hV 14 (by decide) (by decide)
      clear hV
      simp only [putsOf, List.foldl_cons, List.foldl_nil, List.getD_cons_zero, List.getD_cons_succ, List.getD_nil, cond_true, cond_false, Act.put, List.setIfInBounds_toArray, List.set_cons_zero, List.set_cons_succ]
      generalize xv 0 = y0 at *
      generalize xv 1 = y1 at *
      generalize xv 2 = y2 at *
      generalize xv 3 = y3 at *
      generalize xv 4 = y4 at *
      generalize xv 5 = y5 at *
      generalize xv 6 = y6 at *
      generalize xv 7 = y7 at *
      generalize xv 8 = y8 at *
      generalize xv 9 = y9 at *
      generalize xv 10 = y10 at *
      generalize xv 11 = y11 at *
      generalize xv 12 = y12 at *
      generalize xv 13 = y13 at *
      generalize xv 14 = y14 at *
      have ho9 : wE.ownsRow N7 4 1 y14 (pl.length + n) (cellsL pl ++ cellsL (bitsN m n)) := h14
      have hcl : cellsL pl ++ cellsL (bitsN m n) = cellsL (pkB cd ls (s.data.toList.take (i + 1))) := by rw [HTK.out, ← HPL.out]; unfold cellsL; rw [List.map_append]
      have hll : pl.length + n = (pkB cd ls (s.data.toList.take (i + 1))).length := by rw [HTK.out, ← HPL.out, List.length_append, bitsN_length]
      rw [hcl, hll] at ho9
      have HO9 := Lib.hid ho9
      have HB9 := Lib.hid (hb.out.trans (hS.below (B := w7.heap.size) (by rw [← HN7.out]; exact hbs) (fun r hr e => by have := hno r e; rw [← HN7.out] at hr; omega)))
      clear ho9 hcl hll hS h14 ho hb
      rw [HN7.out] at HO9
      go_wp2
      go_roundw
      case rel => exact ⟨i + 1, by omega, by go_num, HO9, HB9⟩
      case measure => simp [intOf]; omega
    ·obtain rfl : s.size = i := by omega
     have ho2 := ho.out
     rw [List.take_of_length_le (by rw [HSL.out]; exact Nat.le_refl _)] at ho2
     obtain ⟨A7, c7, rfl⟩ := own_sl ho2
     have hple := pkB_le cd ls s.data.toList
     rw [HSL.out] at hple
     have hpk := HPK.out
     rw [HSL.out] at hpk
     have he := (enc_length s.size).2
     have hpr := printR_le ls
     rw [HLL.out] at hpr
     obtain ⟨pl, hpl⟩ : ∃ pl, pl = pkB cd ls s.data.toList := ⟨_, rfl⟩
     rw [← hpl] at hple hpk ho2 ⊢
     obtain ⟨E, hE⟩ : ∃ E, E = enc s.size := ⟨_, rfl⟩
     obtain ⟨Pr, hPr⟩ : ∃ Pr, Pr = printR ls := ⟨_, rfl⟩
     obtain ⟨Q, hQ⟩ : ∃ Q, Q = packB pl := ⟨_, rfl⟩
     have hql : Q.length ≤ 1000000 := by rw [hQ]; unfold packB; rw [List.length_map, List.length_range]; omega
     rw [← hE] at he hpk
     rw [← hPr] at hpr hpk
     rw [← hQ] at hpk
     have hs1 : (textB E).size + (textB Pr).size ≤ 9223372036854775807 := by rw [textB_size, textB_size]; omega
     have ht1 : textB E ++ textB Pr = textB (E ++ Pr) := text_append _ _
     have hs2 : (textB E).size + (textB Pr).size + (textB Q).size ≤ 9223372036854775807 := by rw [textB_size, textB_size, textB_size]; omega
     have HT : Hid ((textB E ++ textB Pr) ++ textB Q = textB (pkT s.data.toList)) := by show _ = _; rw [text_append, text_append, hpk, List.append_assoc]
     have hw8 := (HB7.out.trans (hb.out.mono hz7))
     have HR1 := Lib.hid (refPrint s.size wr (by unfold M64; omega))
     rw [← hE] at HR1
     have HPR2 := HPR
     rw [← hPr] at HPR2
     have HRB := Lib.hid (fun (wx : World) (v : Value) (hv : SeqAt wx v (cellsL pl)) => refBytes v pl wx hv (by omega))
     rw [← hQ] at HRB
     have HALL2 := Lib.hid (owned_below HALL.out hb.out)
     have HO2 := Lib.hid ho2
     have HB8 := Lib.hid hw8
     clear ho ho2 hb HALL hpk he hpr hE hPr hQ hql hw8 hpl hple HPK ht1
     go_wp2_with fail
     refine HR1.out.mono ?_
     rintro e w8 ⟨rfl, hb8⟩
     have HALL3 := Lib.hid (owned_below HALL2.out hb8)
     have HO3 := Lib.hid (owned_below HO2.out hb8)
     have HB9 := Lib.hid (then_ HB8.out hb8)
     clear hb8 HALL2 HO2 HB8
     go_wp2_with fail
     refine (HPR2.out w8 _ (SeqAt.of_owns HALL3.out)).mono ?_
     rintro e w9 ⟨rfl, hb9⟩
     have HO4 := Lib.hid (owned_below HO3.out hb9)
     have HB10 := Lib.hid (then_ HB9.out hb9)
     clear hb9 HALL3 HO3 HB9
     go_wp2_with fail
     refine (HRB.out w9 _ (SeqAt.of_owns HO4.out)).mono ?_
     rintro e w10 ⟨rfl, hb10⟩
     have HB11 := Lib.hid (then_ HB10.out hb10)
     clear hb10 HO4 HB10
     go_wp2
     go_ret
     exact ⟨by rw [← HT.out]; rfl, HB11.out⟩
theorem unE_neg {s : ByteArray} {m : Int} (h : m < 0) : unE s m = 1 ∧ unT s m = [] := by
 have h1 : unE s m = 1 := by unfold unE; rw [if_pos h]
 exact ⟨h1, by unfold unT; rw [h1]; rfl⟩
theorem unE_long {s : ByteArray} {M : Nat} (h0 : (rd (restOf s 0)).2.1 = 0) (h : M < (rd (restOf s 0)).1) : unE s (M : Int) = 4 ∧ unT s (M : Int) = [] := by
 have h1 : unE s (M : Int) = 4 := by unfold unE; rw [if_neg (by omega), if_neg (fun e => e h0), if_pos (by omega)]
 exact ⟨h1, by unfold unT; rw [h1]; rfl⟩
theorem unE_else {s : ByteArray} {M : Nat} (h : ¬ ((rd (restOf s 0)).2.1 = 0 ∧ M < (rd (restOf s 0)).1)) :
  (unE s (M : Int) = 3 ∧ unT s (M : Int) = []) ∨ (unE s (M : Int) = 0 ∧ (unT s (M : Int)).length ≤ M ∧ textB (pkT (unT s (M : Int))) = s) := by
 by_cases h0 : unE s (M : Int) = 0
 ·refine .inr ⟨h0, ?_⟩
  have h1 : unT s (M : Int) = unTx s := by unfold unT; rw [if_pos h0]
  rw [h1]
  have h2 := dcT_length (unL s) (s.extract (unZ s) s.size) (rd (restOf s 0)).1
  have h0' := h0
  unfold unE at h0'
  rw [if_neg (by omega)] at h0'
  by_cases c1 : (rd (restOf s 0)).2.1 ≠ 0
  ·rw [if_pos c1] at h0'; exact absurd h0' (by decide)
  ·rw [if_neg c1] at h0'
   by_cases c2 : (M : Int) < ((rd (restOf s 0)).1 : Int)
   ·rw [if_pos c2] at h0'; exact absurd h0' (by decide)
   ·rw [if_neg c2] at h0'
    refine ⟨by unfold unTx; omega, ?_⟩
    by_cases c3 : textB (pkT (unTx s)) = s
    ·exact c3
    ·rw [if_neg c3] at h0'
     split at h0'
     ·exact absurd h0' (by decide)
     ·split at h0' <;> exact absurd h0' (by decide)
 ·refine .inl ?_
  have h3 : unE s (M : Int) = 3 := by
   unfold unE at h0 ⊢
   rw [if_neg (by omega)] at h0 ⊢
   by_cases c1 : (rd (restOf s 0)).2.1 ≠ 0
   ·rw [if_pos c1]
   ·rw [if_neg c1] at h0 ⊢
    by_cases c2 : (M : Int) < ((rd (restOf s 0)).1 : Int)
    ·exact absurd ⟨by simpa using c1, by omega⟩ h
    ·rw [if_neg c2] at h0 ⊢
     split
     ·rfl
     ·rename_i c4
      rw [if_neg c4] at h0
      split
      ·rfl
      ·rename_i c5
       rw [if_neg c5] at h0
       split
       ·rename_i c6
        rw [if_pos c6] at h0; exact absurd rfl h0
       ·rfl
  exact ⟨h3, by unfold unT; rw [if_neg h0]⟩
set_option maxHeartbeats 4000000 in
set_option maxRecDepth 100000 in
theorem reads_walk (s : ByteArray) (m : Int) (w : World) (hs : s.size ≤ maxLen) (wm : (Lit.int .i64 m).wf = true) :
  Calls Try.prog 7 #[.string s, .int .i64 m] w fun e w' => e = .returned (.bool true) ∧ Below w.heap.size w w' := by
 unfold maxLen at hs
 obtain ⟨hm1, hm2⟩ := bounds_i64 wm
 clear wm
 by_cases hgt : 1000 < s.size
 ·have x1 : decide ((1000 : Int) < (s.size : Int)) = true := by simp; omega
  have x2 : decide (1000 < s.size) = true := by simpa using hgt
  go_enter Try.func7, Try.ntmps7
  go_wp2_with fail
  refine (huffAwake w).mono ?_
  rintro e w1 ⟨rfl, hb1⟩
  go_wp2_with fail
  refine (huffAwake w1).mono ?_
  rintro e w2 ⟨rfl, hb2⟩
  go_wp2
  go_ret
  exact ⟨rfl, hb1.trans (hb2.mono hb1.size)⟩
 have x1 : decide ((1000 : Int) < (s.size : Int)) = false := by simp; omega
 have x2 : decide (1000 < s.size) = false := by simpa using hgt
 by_cases hgm : 3000 < m
 ·have x3 : decide ((3000 : Int) < m) = true := by simpa using hgm
  go_enter Try.func7, Try.ntmps7
  go_wp2_with fail
  refine (huffAwake w).mono ?_
  rintro e w1 ⟨rfl, hb1⟩
  go_wp2_with fail
  refine (huffAwake w1).mono ?_
  rintro e w2 ⟨rfl, hb2⟩
  go_wp2
  go_ret
  exact ⟨rfl, hb1.trans (hb2.mono hb1.size)⟩
 have x3 : decide ((3000 : Int) < m) = false := by simpa using hgm
 have hup := fun w => huffUnpack s m w (by omega) (by omega) (by omega)
 have hrd := fun w => refRead s 0 w (by omega) (by omega)
 have hbd := rd_bound (restOf s 0)
 have hul : unE s m ≤ 4 := by unfold unE; repeat' split <;> try decide
 by_cases hneg : m < 0
 ·obtain ⟨h1, h2⟩ := unE_neg (s := s) hneg
  rw [h1, h2, show textB [] = ⟨#[]⟩ from rfl] at hup
  have x4 : decide (m < 0) = true := by simpa using hneg
  generalize (rd (restOf s 0)).1 = n at *
  generalize (rd (restOf s 0)).2.1 = ev at *
  generalize (0 + (rd (restOf s 0)).2.2) = k at *
  have HUP := Lib.hid hup
  have HRD := Lib.hid hrd
  clear hup hrd h1 h2
  go_enter Try.func7, Try.ntmps7
  go_wp2_with fail
  refine (huffAwake w).mono ?_
  rintro e w1 ⟨rfl, hb1⟩
  go_wp2_with fail
  refine (HUP.out w1).mono ?_
  rintro e w2 ⟨rfl, hb2⟩
  have HB2 := Lib.hid (then_ hb1 hb2)
  clear hb1 hb2
  go_wp2_with fail
  refine (HRD.out w2).mono ?_
  rintro e w3 ⟨rfl, rfl⟩
  go_wp2_with fail
  go_ret
  exact ⟨rfl, HB2.out⟩
 obtain ⟨M, rfl⟩ : ∃ M : Nat, m = (M : Int) := ⟨m.toNat, by omega⟩
 have x4 : decide ((M : Int) < 0) = false := by simp
 have eM : IntKind.u64.wrap (M : Int) = (M : Int) := by rw [IntKind.wrap_u64]; omega
 by_cases hlong : (rd (restOf s 0)).2.1 = 0 ∧ M < (rd (restOf s 0)).1
 ·obtain ⟨h1, h2⟩ := unE_long hlong.1 hlong.2
  obtain ⟨g1, g2⟩ := hlong
  rw [h1, h2, show textB [] = ⟨#[]⟩ from rfl] at hup
  rw [g1] at hrd
  generalize (rd (restOf s 0)).1 = n at *
  generalize (0 + (rd (restOf s 0)).2.2) = k at *
  have x5 : decide ((M : Int) < (n : Int)) = true := by simp; omega
  have x6 : decide (M < n) = true := by simpa using g2
  have HUP := Lib.hid hup
  have HRD := Lib.hid hrd
  clear hup hrd h1 h2 g1
  go_enter Try.func7, Try.ntmps7
  go_wp2_with fail
  refine (huffAwake w).mono ?_
  rintro e w1 ⟨rfl, hb1⟩
  go_wp2_with fail
  refine (HUP.out w1).mono ?_
  rintro e w2 ⟨rfl, hb2⟩
  have HB2 := Lib.hid (then_ hb1 hb2)
  clear hb1 hb2
  go_wp2_with fail
  refine (HRD.out w2).mono ?_
  rintro e w3 ⟨rfl, rfl⟩
  go_wp2_with fail
  go_ret
  exact ⟨rfl, HB2.out⟩
 have hels := unE_else hlong
 obtain ⟨n, hn⟩ : ∃ n, n = (rd (restOf s 0)).1 := ⟨_, rfl⟩
 obtain ⟨ev, hev⟩ : ∃ ev, ev = (rd (restOf s 0)).2.1 := ⟨_, rfl⟩
 rw [← hn, ← hev] at hlong hrd
 generalize (0 + (rd (restOf s 0)).2.2) = k at *
 rw [← hn] at hbd
 clear hn hev
 have HRD := Lib.hid hrd
 clear hrd
 have hcase : (ev = 0 ∧ n ≤ M) ∨ ev ≠ 0 := by
  by_cases h : ev = 0
  ·exact .inl ⟨h, by omega⟩
  ·exact .inr h
 clear hlong
 rcases hels with ⟨h1, h2⟩ | ⟨h1, h2, h3⟩
 ·rw [h1, h2, show textB [] = ⟨#[]⟩ from rfl] at hup
  have HUP := Lib.hid hup
  clear hup h1 h2
  rcases hcase with ⟨rfl, hnM⟩ | hev
  ·have x5 : decide ((M : Int) < (n : Int)) = false := by simp; omega
   have x6 : decide (M < n) = false := by simp; omega
   go_enter Try.func7, Try.ntmps7
   go_wp2_with fail
   refine (huffAwake w).mono ?_
   rintro e w1 ⟨rfl, hb1⟩
   go_wp2_with fail
   refine (HUP.out w1).mono ?_
   rintro e w2 ⟨rfl, hb2⟩
   have HB2 := Lib.hid (then_ hb1 hb2)
   clear hb1 hb2
   go_wp2_with fail
   refine (HRD.out w2).mono ?_
   rintro e w3 ⟨rfl, rfl⟩
   go_wp2_with fail
   go_ret
   exact ⟨rfl, HB2.out⟩
  ·have x5 : ((ev : Int) == 0) = false := by simp; omega
   have x6 : (ev == 0) = false := by simpa using hev
   go_enter Try.func7, Try.ntmps7
   go_wp2_with fail
   refine (huffAwake w).mono ?_
   rintro e w1 ⟨rfl, hb1⟩
   go_wp2_with fail
   refine (HUP.out w1).mono ?_
   rintro e w2 ⟨rfl, hb2⟩
   have HB2 := Lib.hid (then_ hb1 hb2)
   clear hb1 hb2
   go_wp2_with fail
   refine (HRD.out w2).mono ?_
   rintro e w3 ⟨rfl, rfl⟩
   go_wp2_with fail
   go_ret
   exact ⟨rfl, HB2.out⟩
 ·rw [h1] at hup
  obtain ⟨t, ht⟩ : ∃ t, t = unT s (M : Int) := ⟨_, rfl⟩
  rw [← ht] at hup h2 h3
  obtain ⟨X, hX⟩ : ∃ X, X = textB t := ⟨_, rfl⟩
  have hXs : X.size = t.length := by rw [hX, textB_size]
  have hXd : X.data.toList = t := by rw [hX]; rfl
  have hrp := fun w hs => refHuffPack X w hs
  have hpk := fun w => huffPack X w (by omega)
  rw [hXd, h3] at hrp hpk
  rw [← hX] at hup
  have HUP := Lib.hid hup
  have HRP := Lib.hid hrp
  have HPK := Lib.hid hpk
  clear hup hrp hpk h1 h3 ht hX hXd
  have hXM : X.size ≤ M := by omega
  have x7 : decide ((X.size : Int) ≤ (M : Int)) = true := by simp; omega
  have x8 : decide (X.size ≤ M) = true := by simpa using hXM
  clear h2 hXs
  by_cases hX6 : X.size ≤ 600
  ·have x9 : decide ((X.size : Int) ≤ 600) = true := by simp; omega
   have x10 : decide (X.size ≤ 600) = true := by simpa using hX6
   have HRP2 := Lib.hid (fun w => HRP.out w (by omega))
   clear HRP
   rcases hcase with ⟨rfl, hnM⟩ | hev
   ·have x5 : decide ((M : Int) < (n : Int)) = false := by simp; omega
    have x6 : decide (M < n) = false := by simp; omega
    go_enter Try.func7, Try.ntmps7
    go_wp2_with fail
    refine (huffAwake w).mono ?_
    rintro e w1 ⟨rfl, hb1⟩
    go_wp2_with fail
    refine (HUP.out w1).mono ?_
    rintro e w2 ⟨rfl, hb2⟩
    have HB2 := Lib.hid (then_ hb1 hb2)
    clear hb1 hb2
    go_wp2_with fail
    refine (HRD.out w2).mono ?_
    rintro e w3 ⟨rfl, rfl⟩
    go_wp2_with fail
    refine (HRP2.out w2).mono ?_
    rintro e w4 ⟨rfl, hb4⟩
    have HB4 := Lib.hid (then_ HB2.out hb4)
    clear hb4 HB2
    go_wp2_with fail
    go_ret
    exact ⟨rfl, HB4.out⟩
   ·have x5 : ((ev : Int) == 0) = false := by simp; omega
    have x6 : (ev == 0) = false := by simpa using hev
    go_enter Try.func7, Try.ntmps7
    go_wp2_with fail
    refine (huffAwake w).mono ?_
    rintro e w1 ⟨rfl, hb1⟩
    go_wp2_with fail
    refine (HUP.out w1).mono ?_
    rintro e w2 ⟨rfl, hb2⟩
    have HB2 := Lib.hid (then_ hb1 hb2)
    clear hb1 hb2
    go_wp2_with fail
    refine (HRD.out w2).mono ?_
    rintro e w3 ⟨rfl, rfl⟩
    go_wp2_with fail
    refine (HRP2.out w2).mono ?_
    rintro e w4 ⟨rfl, hb4⟩
    have HB4 := Lib.hid (then_ HB2.out hb4)
    clear hb4 HB2
    go_wp2_with fail
    go_ret
    exact ⟨rfl, HB4.out⟩
  ·have x9 : decide ((X.size : Int) ≤ 600) = false := by simp; omega
   have x10 : decide (X.size ≤ 600) = false := by simpa using hX6
   have x11 : decide ((600 : Int) < (X.size : Int)) = true := by simp; omega
   have x12 : decide (600 < X.size) = true := by simp; omega
   clear HRP
   rcases hcase with ⟨rfl, hnM⟩ | hev
   ·have x5 : decide ((M : Int) < (n : Int)) = false := by simp; omega
    have x6 : decide (M < n) = false := by simp; omega
    go_enter Try.func7, Try.ntmps7
    go_wp2_with fail
    refine (huffAwake w).mono ?_
    rintro e w1 ⟨rfl, hb1⟩
    go_wp2_with fail
    refine (HUP.out w1).mono ?_
    rintro e w2 ⟨rfl, hb2⟩
    have HB2 := Lib.hid (then_ hb1 hb2)
    clear hb1 hb2
    go_wp2_with fail
    refine (HRD.out w2).mono ?_
    rintro e w3 ⟨rfl, rfl⟩
    go_wp2_with fail
    refine (HPK.out w2).mono ?_
    rintro e w4 ⟨rfl, hb4⟩
    have HB4 := Lib.hid (then_ HB2.out hb4)
    clear hb4 HB2
    go_wp2_with fail
    go_ret
    exact ⟨rfl, HB4.out⟩
   ·have x5 : ((ev : Int) == 0) = false := by simp; omega
    have x6 : (ev == 0) = false := by simpa using hev
    go_enter Try.func7, Try.ntmps7
    go_wp2_with fail
    refine (huffAwake w).mono ?_
    rintro e w1 ⟨rfl, hb1⟩
    go_wp2_with fail
    refine (HUP.out w1).mono ?_
    rintro e w2 ⟨rfl, hb2⟩
    have HB2 := Lib.hid (then_ hb1 hb2)
    clear hb1 hb2
    go_wp2_with fail
    refine (HRD.out w2).mono ?_
    rintro e w3 ⟨rfl, rfl⟩
    go_wp2_with fail
    refine (HPK.out w2).mono ?_
    rintro e w4 ⟨rfl, hb4⟩
    have HB4 := Lib.hid (then_ HB2.out hb4)
    clear hb4 HB2
    go_wp2_with fail
    go_ret
    exact ⟨rfl, HB4.out⟩
end Go.Proofs.Ytakdpnlohknniaa
