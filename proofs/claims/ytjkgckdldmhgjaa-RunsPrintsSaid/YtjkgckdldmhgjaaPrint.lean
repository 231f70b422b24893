import Derived.Test.YtjkgckdldmhgjaaRefunpack
import Derived.Test.YtjkgckdldmhgjaaVarprint
import Derived.Test.YtjkgckdldmhgjaaRefprint
import Derived.Test.YtjkgckdldmhgjaaWrmore
namespace Go.Proofs.Ytjkgckdldmhgjaa
open Go.RowKit
set_option linter.unusedVariables false
set_option linter.unusedSimpArgs false
def bodyR (rs : List (Nat × Nat)) : List UInt8 := rs.flatMap fun p => enc p.1 ++ enc (p.2 - 1)
def printR (l : List Nat) : List UInt8 := enc (packs l).length ++ bodyR (packs l)
theorem bodyR_next {rs : List (Nat × Nat)} {k : Nat} {p : Nat × Nat} (h : rs[k]? = some p) : bodyR (rs.take (k + 1)) = bodyR (rs.take k) ++ (enc p.1 ++ enc (p.2 - 1)) := by
  rw [List.take_add_one, h]; simp [bodyR]
theorem bodyR_length (rs : List (Nat × Nat)) : (bodyR rs).length ≤ 20 * rs.length := by
  induction rs with
  | nil => simp [bodyR]
  | cons p rs ih =>
    have h1 := (enc_length p.1).2
    have h2 := (enc_length (p.2 - 1)).2
    simp only [bodyR, List.flatMap_cons, List.length_append, List.length_cons] at *
    omega
theorem packs_mem (l : List Nat) (hm : ∀ n ∈ l, n < M64) : ∀ p ∈ packs l, p.1 < M64 := by
  suffices h : ∀ (l : List Nat) rs, (∀ n ∈ l, n < M64) → (∀ p ∈ rs, p.1 < M64) → ∀ p ∈ l.foldl pushRun rs, p.1 < M64 from h l [] hm (fun p hp => by simp at hp)
  intro l
  induction l with
  | nil => intro rs _ h; exact h
  | cons n l ih =>
    intro rs hm h
    refine ih _ (fun x hx => hm x (by simp [hx])) ?_
    have hn := hm n (by simp)
    intro p hp
    rcases runs_cases rs with rfl | ⟨d, v, c, rfl⟩
    · rw [pushRun_nil] at hp; simp at hp; subst hp; exact hn
    · by_cases e : v = n
      · subst e
        rw [pushRun_same] at hp
        rcases List.mem_append.1 hp with hp | hp
        · exact h p (by simp [hp])
        · simp at hp; subst hp; exact hn
      · rw [pushRun_new _ _ _ _ e] at hp
        rcases List.mem_append.1 hp with hp | hp
        · exact h p hp
        · simp at hp; subst hp; exact hn
set_option maxHeartbeats 1000000 in
set_option maxRecDepth 100000 in
theorem runsPrint (v : Value) (l : List Nat) (w : World) (h : SeqAt w v (cells64 l)) (hl : l.length ≤ 1099511627776) (hm : ∀ n ∈ l, n < M64) :
    Calls Try.prog 16 #[v] w fun e w' => e = .returned (.string (textB (printR l))) ∧ Below w.heap.size w w' := by
  have hP := fun w' hb => runsPack v l w' (h.later_ hb) hl hm
  have hin := packs_in l
  have hpm := packs_mem l hm
  have HR : Hid (printR l = enc (packs l).length ++ bodyR (packs l)) := rfl
  have HP := Lib.hid hP
  generalize packs l = rs at *
  obtain ⟨hrl, hrc⟩ := hin
  have hrl2 : rs.length ≤ 1099511627776 := by omega
  have hf := WrAt.fresh w w.heap.size (Nat.le_refl _)
  have hb0 : Below w.heap.size w (w.alloc (.cells #[.slice none 0 0] 54)) := (Below.refl _ _).alloc (Nat.le_refl _) _
  have HF := Lib.hid hf
  clear hP h hf
  go_enter Try.func16, Try.ntmps16
  go_wp2_with fail
  generalize w.alloc (.cells #[.slice none 0 0] 54) = w0 at *
  refine (HP.out w0 hb0).mono ?_
  rintro e w1 ⟨vr, rfl, ho, hb1⟩
  have ho := owns_mono ho hb0.size
  have hw1 := HF.out.later hb1
  have hbel := hb0.trans (hb1.mono hb0.size)
  obtain ⟨A, cp, rfl, hc1, hc2, _⟩ := (SeqS.of_owns ho).form
  unfold maxLen at hc2
  have HO := Lib.hid ho
  have HW := Lib.hid hw1
  clear ho hw1 HF hb0 hb1 HP
  go_wp2_with fail
  refine (varintPrint rs.length w1 (by unfold M64; omega)).mono ?_
  rintro e w2 ⟨rfl, hb2⟩
  have hw2 := HW.out.later hb2
  have ho2 := owns_below HO.out hb2
  have hbel := hbel.trans (hb2.mono hbel.size)
  have he := enc_length rs.length
  have HW := Lib.hid hw2
  have HO := Lib.hid ho2
  clear hw2 ho2 hb2
  go_wp2_with fail
  refine (octetText w.heap.size w.heap.size ByteArray.empty (textB (enc rs.length)) w2 HW.out (by rw [textB_size, show ByteArray.empty.size = 0 from rfl]; omega)).mono ?_
  rintro e w3 ⟨rfl, hw3, hk3⟩
  have ho3 := owns_wr HO.out HW.out hk3 (by decide) (by decide)
  have hbel := below_wr hbel hk3 hbel.size
  rw [show ByteArray.empty = textB [] from rfl, text_append, List.nil_append] at hw3
  clear HW HO hk3
  go_wp2
  go_loopw [16] (fun c wr => ∃ k : Nat, k ≤ rs.length ∧ c = .int .i64 k ∧ WrAt wr w.heap.size w.heap.size (textB (enc rs.length ++ bodyR (rs.take k))) ∧ wr.ownsRow w.heap.size 36 2 (.slice A rs.length cp) rs.length (cells2 rs) ∧ Below w.heap.size w wr)
    (fun c _ => rs.length - (intOf c).toNat)
  case atStart => exact ⟨0, by omega, rfl, by simpa [bodyR] using hw3, ho3, hbel⟩
  case round =>
    clear hw3 ho3 hbel
    obtain ⟨k, hk, rfl, hw, ho, hb⟩ := hrel
    by_cases hlt : k < rs.length
    · have hki : (k : Int) < (rs.length : Int) := by omega
      have hg : rs[k]? = some rs[k] := List.getElem?_eq_getElem hlt
      obtain ⟨b, off, rfl, c1, c2⟩ := seq2_at (SeqS.of_owns ho) hg hlt
      have hnx := bodyR_next hg
      have hpm := hpm _ (List.getElem_mem hlt)
      have hpc := hrc _ (List.getElem_mem hlt)
      have hbl := bodyR_length (rs.take k)
      rw [List.length_take, Nat.min_eq_left hk] at hbl
      generalize rs[k] = p at *
      obtain ⟨x, c⟩ := p
      simp only at c1 c2 hnx hpm hpc
      have he1 := enc_length x
      have he2 := enc_length (c - 1)
      have hvx := fun w => varintPrint x w hpm
      have hvc := fun w => varintPrint (c - 1) w (by unfold M64; omega)
      rw [show ((c - 1 : Nat) : Int) = (c : Int) - 1 by omega] at hvc
      have HVX := Lib.hid hvx
      have HVC := Lib.hid hvc
      have HNX := Lib.hid hnx
      unfold M64 at hpm
      generalize enc x = ex at *
      generalize enc (c - 1) = ec at *
      generalize hd : enc rs.length ++ bodyR (rs.take k) = d at *
      have hdl : d.length ≤ 10 + 20 * k := by rw [← hd, List.length_append]; omega
      have HD := Lib.hid hd
      have hbs := hb.size
      have hli := Lies.made wr 36 #[.int .u64 (x : Int), .int .u64 (c : Int)]
      have hoa := ho.alloc (.cells #[.int .u64 (x : Int), .int .u64 (c : Int)] 36)
      have hwa := hw.alloc (.cells #[.int .u64 (x : Int), .int .u64 (c : Int)] 36)
      have hba := hb.alloc hbs (.cells #[.int .u64 (x : Int), .int .u64 (c : Int)] 36)
      have hci1 : (1 : Int) ≤ (c : Int) := by omega
      have hci2 : (c : Int) ≤ 1099511627776 := by omega
      clear hvx hvc hnx hd hw ho hb hg hbl
      go_wp2_with fail
      generalize wr.alloc (.cells #[.int .u64 (x : Int), .int .u64 (c : Int)] 36) = wA at *
      generalize wr.heap.size = gA at *
      refine (HVX.out _).mono ?_
      rintro e w4 ⟨rfl, hb4⟩
      have hw4 := hwa.later hb4
      have ho4 := owns_below hoa hb4
      have hl4 := hli.below hb4 hli.lt
      have hbel4 := hba.trans (hb4.mono hba.size)
      have HW := Lib.hid hw4
      have HO := Lib.hid ho4
      have HL := Lib.hid hl4
      clear hwa hoa hli hba hw4 ho4 hl4 hb4
      go_wp2_with fail
      refine (octetText w.heap.size w.heap.size _ (textB ex) w4 HW.out (by rw [textB_size, textB_size]; omega)).mono ?_
      rintro e w5 ⟨rfl, hw5, hk5⟩
      have ho5 := owns_wr HO.out HW.out hk5 (by decide) (by decide)
      have hl5 := lies_wr HL.out HW.out hk5 (by decide) (by decide)
      have hbel5 := below_wr hbel4 hk5 hbel4.size
      rw [text_append] at hw5
      have d2 := hl5.cell 1
      simp at d2
      clear HW HO HL hk5 hbel4
      have HW := Lib.hid hw5
      have HO := Lib.hid ho5
      clear hw5 ho5 hl5
      go_wp2_with fail
      refine (HVC.out _).mono ?_
      rintro e w6 ⟨rfl, hb6⟩
      have hw6 := HW.out.later hb6
      have ho6 := owns_below HO.out hb6
      have hbel6 := hbel5.trans (hb6.mono hbel5.size)
      clear HW HO d2 hb6 hbel5
      have HW := Lib.hid hw6
      have HO := Lib.hid ho6
      clear hw6 ho6
      go_wp2_with fail
      refine (octetText w.heap.size w.heap.size _ (textB ec) w6 HW.out (by rw [textB_size, textB_size, List.length_append]; omega)).mono ?_
      rintro e w7 ⟨rfl, hw7, hk7⟩
      have ho7 := owns_wr HO.out HW.out hk7 (by decide) (by decide)
      have hbel7 := below_wr hbel6 hk7 hbel6.size
      rw [text_append, ← HD.out, List.append_assoc, List.append_assoc, ← HNX.out] at hw7
      clear HW HO hk7 hbel6
      have HW := Lib.hid hw7
      have HO := Lib.hid ho7
      clear hw7 ho7
      go_wp2
      go_roundw
      case rel => exact ⟨k + 1, by omega, by go_num, HW.out, HO.out, hbel7⟩
      case measure => simp [intOf]; omega
    · obtain rfl : k = rs.length := by omega
      rw [List.take_of_length_le (Nat.le_refl _), ← HR.out] at hw
      have HW := Lib.hid hw
      have hbl := bodyR_length rs
      have hsz : (textB (printR l)).size ≤ maxLen := by rw [textB_size, HR.out, List.length_append]; unfold maxLen; omega
      clear hw ho hbl
      go_wp2_with fail
      refine (octetString w.heap.size w.heap.size _ wr HW.out hsz).mono ?_
      rintro e w' ⟨rfl, rfl⟩
      go_wp2
      go_ret
      exact ⟨rfl, hb⟩
end Go.Proofs.Ytjkgckdldmhgjaa
