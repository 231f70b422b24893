/-
  The law ThreadSpins (layer 16), walked.
-/
import Derived.Test.YtiegmpjoiekekaaAwake
import Derived.Test.YtiegmpjoiekekaaThs2
import Derived.Test.YtiegmpjoiekekaaThsp
namespace Go.Proofs.Ytiegmpjoiekekaa
open Go.RowKit
set_option linter.unusedVariables false
set_option linter.unusedSimpArgs false
theorem Try.infoIn : (Try.prog.info? 50).map (fun i => (i.zero, i.size, i.bytes)) = some (some (.agg #[.int .i64 0, .int .i64 0, .int .i64 0, .int .i64 0, .int .i64 0, .int .u64 0]), 6, 48) := by kernel_rfl
theorem inF_one (l : List In) : ∀ u ∈ rowsOf inF l, u.oneCell' = true := fun u hu => by
  obtain ⟨x, _, hx⟩ := rowsOf_mem hu
  simp [inF] at hx
  rcases hx with rfl | rfl | rfl | rfl | rfl | rfl <;> rfl
theorem seqAt16 {w : World} {v : Value} {xs : List Nat} (h : SeqS w 1 v xs.length (cells64 xs)) : SeqAt w v (cells64 xs) := by
  obtain ⟨h1, A, c, h2, h3, h4, h5, h6⟩ := h
  have hl : (cells64 xs).length = xs.length := by simp [cells64]
  exact ⟨A, c, by rw [hl]; exact h2, by rw [hl]; exact h3, h4, h6⟩
theorem samT_self (x : Th) : samT x x = true := by
  simp [samT, regB]
theorem spin_m (n : Int) : ∃ m : Nat, wrap64 ((IntKind.u64.wrap n).tmod 256) = (m : Int) ∧ m ≤ 255 := by
  have h0 : IntKind.u64.wrap n = n % 18446744073709551616 := IntKind.wrap_u64 n
  have h1 : 0 ≤ IntKind.u64.wrap n := by rw [h0]; omega
  have h2 : (IntKind.u64.wrap n).tmod 256 = (IntKind.u64.wrap n) % 256 := Int.tmod_eq_emod_of_nonneg h1
  refine ⟨((IntKind.u64.wrap n) % 256).toNat, ?_, by omega⟩
  rw [h2]
  unfold wrap64
  omega
theorem spin_div (k : Nat) : Int.tdiv 256 ((k : Int) + 1) = ((256 / (k + 1) : Nat) : Int) := by
  have := Int.ofNat_tdiv 256 (k + 1)
  exact this.symm
theorem spin_mod (k : Nat) : Int.tmod 256 ((k : Int) + 1) = ((256 % (k + 1) : Nat) : Int) := by
  have := Int.ofNat_tmod 256 (k + 1)
  exact this.symm
set_option maxHeartbeats 8000000 in
set_option maxRecDepth 100000 in
theorem spins_true (n : Int) (w : World) (h : (Lit.int .i64 n).wf = true) :
    Calls Try.prog 7 #[.int .i64 n, .bool true] w fun q w' => q = .returned (.bool true) ∧ Below w.heap.size w w' := by
  obtain ⟨m, hm, hm5⟩ := spin_m n
  have HM := Lib.hid hm
  clear hm h
  have HB := Lib.hid (Below.refl w.heap.size w)
  have hO0 : w.ownsRow w.heap.size 50 6 (.slice none 0 0) 0 (rowsOf inF (List.replicate 0 addI)) := World.ownsRow_nil _ _ _ _
  have HO := Lib.hid hO0
  clear hO0
  go_enter Try.func7, Try.ntmps7
  go_upto_region 4 with (fail)
  rw [HM.out]
  go_loopw [5, 16] (fun v u wr => ∃ k : Nat, k ≤ m ∧ u = .int .i64 k ∧ Hid (wr.ownsRow w.heap.size 50 6 v k (rowsOf inF (List.replicate k addI))) ∧ Hid (Below w.heap.size w wr)) (fun _ u _ => m - (intOf u).toNat)
  case atStart => exact ⟨0, by omega, rfl, HO, HB⟩
  case round =>
    clear HO HB
    obtain ⟨k, hk, rfl, HO, HB⟩ := hrel
    rename_i v0 _
    by_cases hlt : k < m
    · have hki : (k : Int) < (m : Int) := by omega
      have hba := (Below.refl wr.heap.size wr).alloc (Nat.le_refl _) (.cells #[.int .i64 3, .int .i64 1, .int .i64 1, .int .i64 2, .int .i64 0, .int .u64 0] 50)
      have hlit : World.ownsRow (wr.alloc (.cells #[.int .i64 3, .int .i64 1, .int .i64 1, .int .i64 2, .int .i64 0, .int .u64 0] 50)) 0 50 6 (.slice (some ⟨wr.heap.size, 0, none⟩) 1 1) 1 (rowsOf inF [addI]) := World.ownsRow_lit (base := 0) (e := 50) (size := 6) wr #[.int .i64 3, .int .i64 1, .int .i64 1, .int .i64 2, .int .i64 0, .int .u64 0] 1 (Nat.zero_le _) (by unfold maxLen; omega) rfl
      have HLT := Lib.hid (SeqS.of_owns hlit)
      have HOA := Lib.hid (owned_below HO.out hba)
      have HBA := Lib.hid (HB.out.trans (hba.mono HB.out.size))
      clear hba hlit
      go_wp2_with (at_builtin; refine append_argS (wr.alloc (.cells #[.int .i64 3, .int .i64 1, .int .i64 1, .int .i64 2, .int .i64 0, .int .u64 0] 50)) 6 rfl (.tmp 18) (.tmp 20) 22 rfl w.heap.size 50 _ 48 Try.underlying22 Try.infoIn rfl (by decide) _ k (rowsOf inF (List.replicate k addI)) rfl HOA.out (some ⟨wr.heap.size, 0, none⟩) 1 1 rfl (rowsOf inF [addI]) HLT.out (inF_one _) (by unfold maxLen; omega) (by omega) HBA.out.size ?_)
      intro v' w' ho hb hgr
      rw [← rowsOf_append] at ho
      have HO2 := Lib.hid ho
      have HB2 := Lib.hid (HBA.out.trans hb)
      clear ho hb hgr HLT HOA HBA
      rw [← List.replicate_succ'] at HO2
      go_wp2
      go_roundw
      case rel => exact ⟨k + 1, by omega, by go_num, HO2, HB2⟩
      case measure => simp [intOf]; omega
    · obtain rfl : k = m := by omega
      have HSP : Hid (rowsOf inF (List.replicate k addI) = rowsOf inF (spL k true)) := by show _ = _; unfold spL; simp
      rw [HSP.out] at HO
      have hlen : (spL k true).length = k := by rw [spL_len]; rfl
      obtain ⟨A, c, hv⟩ := owns_slice HO.out
      subst hv
      have HIN := Lib.hid (show InsAt wr A c (spL k true) from by show SeqS wr 6 (.slice A (spL k true).length c) (spL k true).length _; rw [hlen]; exact SeqS.of_owns HO.out)
      clear HSP HO
      generalize wr = w5 at *
      have HNZ := Lib.hid (spin_seen hm5)
      go_wp2_with fail
      have HCL := Lib.hid (nextU (spL k true) A c spX none 0 w5 HIN.out spL_ok spX_ok (SeqS.of_owns (World.ownsRow_nil w5 0 23 1)) (by decide))
      rw [HNZ.out, hlen] at HCL
      refine HCL.out.mono ?_
      rintro q w6 ⟨u, rfl, ⟨A2, k2, rfl, ho⟩, hbm⟩
      replace HB := Lib.hid (HB.out.trans (hbm.mono HB.out.size))
      clear hbm ho HCL HIN HNZ
      have HBn := Lib.hid (((Below.refl w6.heap.size w6).alloc (Nat.le_refl _) (.cells thZ 27)).alloc (by simp) (.cells akZ 31))
      have lz0 := ((Lies.made w6 27 thZ).alloc (.cells akZ 31))
      have HZ0_0 := Lib.hid lz0
      clear lz0
      have lz1 := (Lies.made (w6.alloc (.cells thZ 27)) 31 akZ)
      rw [show (w6.alloc (.cells thZ 27)).heap.size = w6.heap.size + 1 by simp] at lz1
      have HZ0_1 := Lib.hid lz1
      clear lz1
      generalize hw3 : ((w6.alloc (.cells thZ 27)).alloc (.cells akZ 31)) = w3 at *
      generalize hn5 : w6.heap.size = n5 at *
      have hns : n5 ≤ w3.heap.size := by rw [← hn5]; exact HBn.out.size
      have hk0 := kept_rowT (w := w3) (g := n5) (thC (stG k k) (.slice A2 (stG k k).sn.length k2))
      have HZ1_0 := Lib.hid (lies_row HZ0_0.out (thC (stG k k) (.slice A2 (stG k k).sn.length k2)))
      have HZ1_1 := Lib.hid (HZ0_1.out.kept hk0 (fun (e : n5 + 1 = n5) => by omega))
      have HBn0 := Lib.hid (HBn.out.trans (hk0.below (show n5 ≤ w3.heap.size from hns) (fun k hk (e : k = n5) => by omega)))
      have hks0 : w3.heap.size ≤ (w3.setRow (n5) (thC (stG k k) (.slice A2 (stG k k).sn.length k2))).heap.size := hk0.size
      have hk1 := kept_rowT (w := (w3.setRow (n5) (thC (stG k k) (.slice A2 (stG k k).sn.length k2)))) (g := n5 + 1) (akC (noneA 8))
      have HZ2_0 := Lib.hid (HZ1_0.out.kept hk1 (fun (e : n5 = n5 + 1) => by omega))
      have HZ2_1 := Lib.hid (lies_row HZ1_1.out (akC (noneA 8)))
      have HBn1 := Lib.hid (HBn0.out.trans (hk1.below (show n5 ≤ (w3.setRow (n5) (thC (stG k k) (.slice A2 (stG k k).sn.length k2))).heap.size from Nat.le_trans hns hks0) (fun k hk (e : k = n5 + 1) => by omega)))
      have hks1 : w3.heap.size ≤ ((w3.setRow (n5) (thC (stG k k) (.slice A2 (stG k k).sn.length k2))).setRow (n5 + 1) (akC (noneA 8))).heap.size := Nat.le_trans hks0 hk1.size
      clear hk0 hk1
      go_upto_region 10 with (first | refine wpList_store_row rfl 27 _ _ rfl (n5) (thC (stG k k) (.slice A2 (stG k k).sn.length k2)) rfl rfl 27 thZ HZ0_0.out infoTh rfl (thC_one _ rfl) ?_ | refine wpList_store_row rfl 31 _ _ rfl (n5 + 1) (akC (noneA 8)) rfl rfl 31 akZ HZ1_1.out infoAk rfl (akC_one _) ?_)
      clear hw3 hks0 hks1 hns HBn HBn0 HZ0_0 HZ0_1 HZ1_0 HZ1_1
      generalize ((w3.setRow (n5) (thC (stG k k) (.slice A2 (stG k k).sn.length k2))).setRow (n5 + 1) (akC (noneA 8))) = w7 at *
      have hbf := HBn1.out
      rw [← hn5] at hbf
      clear HBn1
      replace HB := Lib.hid (HB.out.trans (hbf.mono HB.out.size))
      clear hbf
      have HT1 := HZ2_0
      clear HZ2_0
      have HA1 := HZ2_1
      clear HZ2_1
      generalize n5 = b1 at *
      clear hn5
      go_wp2_with fail
      refine (awake16 _).mono ?_
      rintro q w8 ⟨rfl, hbm⟩
      replace HT1 := Lib.hid (HT1.out.below hbm HT1.out.lt)
      replace HA1 := Lib.hid (HA1.out.below hbm HA1.out.lt)
      replace HB := Lib.hid (HB.out.trans (hbm.mono HB.out.size))
      clear hbm
      have s0 := (HT1.out.cell 0).trans (show _ = some (Value.int .i64 (k : Int)) from rfl)
      have s6 := (HT1.out.cell 6).trans (show _ = some (Value.int .u64 (k : Int)) from rfl)
      have sl := HT1.out.lt
      have ka0 := (HA1.out.cell 0).trans (show _ = some (Value.int .i64 8) from rfl)
      have ka1 := (HA1.out.cell 1).trans (show _ = some (Value.int .i64 0) from rfl)
      have ka2 := (HA1.out.cell 2).trans (show _ = some (Value.int .i64 0) from rfl)
      have ka3 := (HA1.out.cell 3).trans (show _ = some (Value.int .i64 0) from rfl)
      have ka4 := (HA1.out.cell 4).trans (show _ = some (Value.int .u64 0) from rfl)
      have ka5 := (HA1.out.cell 5).trans (show _ = some (Value.int .u64 0) from rfl)
      have kal := HA1.out.lt
      have hq1 : ∀ q : World, (binOp .eql 31 (.agg #[.int .i64 8, .int .i64 0, .int .i64 0, .int .i64 0, .int .u64 0, .int .u64 0]) (.agg #[.int .i64 8, .int .i64 0, .int .i64 0, .int .i64 0, .int .u64 0, .int .u64 0])).run Try.prog q = .ok (.bool true) q := fun q => akEql ⟨8, 0, 0, 0, 0, 0⟩ ⟨8, 0, 0, 0, 0, 0⟩ q
      have hgd := akGuard
      have hhd := akHeld
      have hwk : IntKind.u64.wrap (k : Int) = (k : Int) := by rw [IntKind.wrap_u64]; omega
      have e1 : ((k : Int) == (k : Int)) = true := by rw [beq_iff_eq]
      have e2 : (k == k) = true := by rw [beq_iff_eq]
      go_wp2
      go_ret
      exact ⟨rfl, HB.out⟩
set_option maxHeartbeats 8000000 in
set_option maxRecDepth 100000 in
theorem spins_false (n : Int) (w : World) (h : (Lit.int .i64 n).wf = true) :
    Calls Try.prog 7 #[.int .i64 n, .bool false] w fun q w' => q = .returned (.bool true) ∧ Below w.heap.size w w' := by
  obtain ⟨m, hm, hm5⟩ := spin_m n
  have HM := Lib.hid hm
  clear hm h
  have HB := Lib.hid (Below.refl w.heap.size w)
  have hO0 : w.ownsRow w.heap.size 50 6 (.slice none 0 0) 0 (rowsOf inF (List.replicate 0 addI)) := World.ownsRow_nil _ _ _ _
  have HO := Lib.hid hO0
  clear hO0
  go_enter Try.func7, Try.ntmps7
  go_upto_region 4 with (fail)
  rw [HM.out]
  go_loopw [5, 16] (fun v u wr => ∃ k : Nat, k ≤ m ∧ u = .int .i64 k ∧ Hid (wr.ownsRow w.heap.size 50 6 v k (rowsOf inF (List.replicate k addI))) ∧ Hid (Below w.heap.size w wr)) (fun _ u _ => m - (intOf u).toNat)
  case atStart => exact ⟨0, by omega, rfl, HO, HB⟩
  case round =>
    clear HO HB
    obtain ⟨k, hk, rfl, HO, HB⟩ := hrel
    rename_i v0 _
    by_cases hlt : k < m
    · have hki : (k : Int) < (m : Int) := by omega
      have hba := (Below.refl wr.heap.size wr).alloc (Nat.le_refl _) (.cells #[.int .i64 3, .int .i64 1, .int .i64 1, .int .i64 2, .int .i64 0, .int .u64 0] 50)
      have hlit : World.ownsRow (wr.alloc (.cells #[.int .i64 3, .int .i64 1, .int .i64 1, .int .i64 2, .int .i64 0, .int .u64 0] 50)) 0 50 6 (.slice (some ⟨wr.heap.size, 0, none⟩) 1 1) 1 (rowsOf inF [addI]) := World.ownsRow_lit (base := 0) (e := 50) (size := 6) wr #[.int .i64 3, .int .i64 1, .int .i64 1, .int .i64 2, .int .i64 0, .int .u64 0] 1 (Nat.zero_le _) (by unfold maxLen; omega) rfl
      have HLT := Lib.hid (SeqS.of_owns hlit)
      have HOA := Lib.hid (owned_below HO.out hba)
      have HBA := Lib.hid (HB.out.trans (hba.mono HB.out.size))
      clear hba hlit
      go_wp2_with (at_builtin; refine append_argS (wr.alloc (.cells #[.int .i64 3, .int .i64 1, .int .i64 1, .int .i64 2, .int .i64 0, .int .u64 0] 50)) 6 rfl (.tmp 18) (.tmp 20) 22 rfl w.heap.size 50 _ 48 Try.underlying22 Try.infoIn rfl (by decide) _ k (rowsOf inF (List.replicate k addI)) rfl HOA.out (some ⟨wr.heap.size, 0, none⟩) 1 1 rfl (rowsOf inF [addI]) HLT.out (inF_one _) (by unfold maxLen; omega) (by omega) HBA.out.size ?_)
      intro v' w' ho hb hgr
      rw [← rowsOf_append] at ho
      have HO2 := Lib.hid ho
      have HB2 := Lib.hid (HBA.out.trans hb)
      clear ho hb hgr HLT HOA HBA
      rw [← List.replicate_succ'] at HO2
      go_wp2
      go_roundw
      case rel => exact ⟨k + 1, by omega, by go_num, HO2, HB2⟩
      case measure => simp [intOf]; omega
    · obtain rfl : k = m := by omega
      have hba := (Below.refl wr.heap.size wr).alloc (Nat.le_refl _) (.cells #[.int .i64 15, .int .i64 0, .int .i64 0, .int .i64 0, .int .i64 0, .int .u64 0] 50)
      have hlit : World.ownsRow (wr.alloc (.cells #[.int .i64 15, .int .i64 0, .int .i64 0, .int .i64 0, .int .i64 0, .int .u64 0] 50)) 0 50 6 (.slice (some ⟨wr.heap.size, 0, none⟩) 1 1) 1 (rowsOf inF [jmpI]) := World.ownsRow_lit (base := 0) (e := 50) (size := 6) wr #[.int .i64 15, .int .i64 0, .int .i64 0, .int .i64 0, .int .i64 0, .int .u64 0] 1 (Nat.zero_le _) (by unfold maxLen; omega) rfl
      have HLT := Lib.hid (SeqS.of_owns hlit)
      have HOA := Lib.hid (owned_below HO.out hba)
      have HBA := Lib.hid (HB.out.trans (hba.mono HB.out.size))
      clear hba hlit
      go_wp2_with (at_builtin; refine append_argS (wr.alloc (.cells #[.int .i64 15, .int .i64 0, .int .i64 0, .int .i64 0, .int .i64 0, .int .u64 0] 50)) 6 rfl (.tmp 25) (.tmp 27) 22 rfl w.heap.size 50 _ 48 Try.underlying22 Try.infoIn rfl (by decide) _ k (rowsOf inF (List.replicate k addI)) rfl HOA.out (some ⟨wr.heap.size, 0, none⟩) 1 1 rfl (rowsOf inF [jmpI]) HLT.out (inF_one _) (by unfold maxLen; omega) (by omega) HBA.out.size ?_)
      intro v' w' ho hb hgr
      rw [← rowsOf_append] at ho
      have HO2 := Lib.hid ho
      have HB2 := Lib.hid (HBA.out.trans hb)
      clear ho hb hgr HLT HOA HBA
      have hlen : (spL k false).length = k + 1 := by rw [spL_len]; rfl
      have HO3 : Hid (World.ownsRow w' w.heap.size 50 6 v' (k + 1) (rowsOf inF (spL k false))) := HO2
      clear HO2
      obtain ⟨A, c, hv⟩ := owns_slice HO3.out
      subst hv
      have HIN := Lib.hid (show InsAt w' A c (spL k false) from by show SeqS w' 6 (.slice A (spL k false).length c) (spL k false).length _; rw [hlen]; exact SeqS.of_owns HO3.out)
      clear HO3 HO HB
      have HB := HB2
      clear HB2
      generalize w' = w5 at *
      obtain ⟨qm, hqm⟩ : ∃ q, 256 / (k + 1) = q := ⟨_, rfl⟩
      obtain ⟨rm, hrm⟩ : ∃ q, 256 % (k + 1) = q := ⟨_, rfl⟩
      have hnz := spin_not hm5
      rw [hqm, hrm] at hnz
      have HNZ := Lib.hid hnz
      have HQM := Lib.hid hqm
      have HRM := Lib.hid hrm
      clear hnz hqm hrm
      go_wp2_with fail
      have HCL := Lib.hid (nextU (spL k false) A c spX none 0 w5 HIN.out spL_ok spX_ok (SeqS.of_owns (World.ownsRow_nil w5 0 23 1)) (by decide))
      rw [HNZ.out, hlen] at HCL
      refine HCL.out.mono ?_
      rintro q w6 ⟨u, rfl, ⟨A2, k2, rfl, ho⟩, hbm⟩
      replace HB := Lib.hid (HB.out.trans (hbm.mono HB.out.size))
      clear hbm ho HCL HIN HNZ
      have HBn := Lib.hid (((Below.refl w6.heap.size w6).alloc (Nat.le_refl _) (.cells thZ 27)).alloc (by simp) (.cells akZ 31))
      have lz0 := ((Lies.made w6 27 thZ).alloc (.cells akZ 31))
      have HZ0_0 := Lib.hid lz0
      clear lz0
      have lz1 := (Lies.made (w6.alloc (.cells thZ 27)) 31 akZ)
      rw [show (w6.alloc (.cells thZ 27)).heap.size = w6.heap.size + 1 by simp] at lz1
      have HZ0_1 := Lib.hid lz1
      clear lz1
      generalize hw3 : ((w6.alloc (.cells thZ 27)).alloc (.cells akZ 31)) = w3 at *
      generalize hn5 : w6.heap.size = n5 at *
      have hns : n5 ≤ w3.heap.size := by rw [← hn5]; exact HBn.out.size
      have hk0 := kept_rowT (w := w3) (g := n5) (thC (stG rm (qm * k + rm)) (.slice A2 (stG rm (qm * k + rm)).sn.length k2))
      have HZ1_0 := Lib.hid (lies_row HZ0_0.out (thC (stG rm (qm * k + rm)) (.slice A2 (stG rm (qm * k + rm)).sn.length k2)))
      have HZ1_1 := Lib.hid (HZ0_1.out.kept hk0 (fun (e : n5 + 1 = n5) => by omega))
      have HBn0 := Lib.hid (HBn.out.trans (hk0.below (show n5 ≤ w3.heap.size from hns) (fun k hk (e : k = n5) => by omega)))
      have hks0 : w3.heap.size ≤ (w3.setRow (n5) (thC (stG rm (qm * k + rm)) (.slice A2 (stG rm (qm * k + rm)).sn.length k2))).heap.size := hk0.size
      have hk1 := kept_rowT (w := (w3.setRow (n5) (thC (stG rm (qm * k + rm)) (.slice A2 (stG rm (qm * k + rm)).sn.length k2)))) (g := n5 + 1) (akC (noneA 9))
      have HZ2_0 := Lib.hid (HZ1_0.out.kept hk1 (fun (e : n5 = n5 + 1) => by omega))
      have HZ2_1 := Lib.hid (lies_row HZ1_1.out (akC (noneA 9)))
      have HBn1 := Lib.hid (HBn0.out.trans (hk1.below (show n5 ≤ (w3.setRow (n5) (thC (stG rm (qm * k + rm)) (.slice A2 (stG rm (qm * k + rm)).sn.length k2))).heap.size from Nat.le_trans hns hks0) (fun k hk (e : k = n5 + 1) => by omega)))
      have hks1 : w3.heap.size ≤ ((w3.setRow (n5) (thC (stG rm (qm * k + rm)) (.slice A2 (stG rm (qm * k + rm)).sn.length k2))).setRow (n5 + 1) (akC (noneA 9))).heap.size := Nat.le_trans hks0 hk1.size
      clear hk0 hk1
      go_upto_region 10 with (first | refine wpList_store_row rfl 27 _ _ rfl (n5) (thC (stG rm (qm * k + rm)) (.slice A2 (stG rm (qm * k + rm)).sn.length k2)) rfl rfl 27 thZ HZ0_0.out infoTh rfl (thC_one _ rfl) ?_ | refine wpList_store_row rfl 31 _ _ rfl (n5 + 1) (akC (noneA 9)) rfl rfl 31 akZ HZ1_1.out infoAk rfl (akC_one _) ?_)
      clear hw3 hks0 hks1 hns HBn HBn0 HZ0_0 HZ0_1 HZ1_0 HZ1_1
      generalize ((w3.setRow (n5) (thC (stG rm (qm * k + rm)) (.slice A2 (stG rm (qm * k + rm)).sn.length k2))).setRow (n5 + 1) (akC (noneA 9))) = w7 at *
      have hbf := HBn1.out
      rw [← hn5] at hbf
      clear HBn1
      replace HB := Lib.hid (HB.out.trans (hbf.mono HB.out.size))
      clear hbf
      have HT1 := HZ2_0
      clear HZ2_0
      have HA1 := HZ2_1
      clear HZ2_1
      generalize n5 = b1 at *
      clear hn5
      have hwk : IntKind.i64.wrap ((k : Int) + 1) = (k : Int) + 1 := IntWalk.i64_in _ (by omega)
      have hnz : (((k : Int) + 1) == 0) = false := by rw [beq_eq_false_iff_ne]; omega
      have hqi : Int.tdiv 256 ((k : Int) + 1) = (qm : Int) := by rw [← HQM.out]; exact spin_div k
      have hri : Int.tmod 256 ((k : Int) + 1) = (rm : Int) := by rw [← HRM.out]; exact spin_mod k
      have hqb : qm ≤ 256 := by rw [← HQM.out]; exact Nat.div_le_self _ _
      have hrb : rm ≤ 256 := by rw [← HRM.out]; exact Nat.le_of_lt_succ (Nat.lt_of_lt_of_le (Nat.mod_lt _ (by omega)) (by omega))
      have hwq : IntKind.i64.wrap (qm : Int) = (qm : Int) := IntWalk.i64_in _ (by omega)
      have hwr : IntKind.i64.wrap (rm : Int) = (rm : Int) := IntWalk.i64_in _ (by omega)
      go_wp2_with fail
      refine wp_region_rely (fun q => Kept noRow w7 q) (rgV [some (.int .i64 (k : Int)), some (.int .i64 ((k : Int) + 1)), some (.int .i64 (qm : Int)), some (.int .i64 (k : Int)), some (.int .i64 ((k : Int) + 1)), some (.int .i64 (rm : Int)), some (.int .i64 (qm : Int)), some (.int .i64 (rm : Int))] (fun _ _ => True)) [some 62, some 63, some 64, some 65, some 66, some 67, some 9, some 10] [[], [0], [1], [], [3], [4], [2], [5]] [[], [0], [0, 1], [], [3], [3, 4], [0, 1, 2], [0, 1, 2, 3, 4, 5]] [[2, 3, 4, 5], [3, 4, 5], [3, 4, 5], [0, 1, 2, 5, 6], [0, 1, 2, 6], [0, 1, 2, 6], [3, 4, 5], [6]] [0, 1, 2, 3, 4, 5, 6, 7] 8 (by kernel_rfl) (by kernel_rfl) (by kernel_rfl) (by kernel_rfl) ?rS (fun j h1 h2 => absurd (Nat.lt_of_lt_of_le h1 (Nat.le_trans (by decide) h2)) (Nat.lt_irrefl _)) ?rT ?rE
      case rS => exact Kept.drew _ _
      case rT =>
        refine RelySteps.cons (RelyStep.mk [] [2, 3, 4, 5] rfl rfl rfl (fun xv wS hS hV bq hb K hK => ?_)) ?_
        · clear hV
          simp only [putsOf, List.foldl_cons, List.foldl_nil, List.getD_cons_zero, List.getD_cons_succ, List.getD_nil, cond_true, cond_false, Act.put, List.setIfInBounds_toArray, List.set_cons_zero, List.set_cons_succ] at hb
          subst hb
          rw [if_pos (by rfl)]
          go_wp2_with fail
          exact hK.out _ _ ⟨_, rfl, hS, rfl, AllP.same _⟩
        refine RelySteps.cons (RelyStep.mk [0] [3, 4, 5] rfl rfl rfl (fun xv wS hS hV bq hb K hK => ?_)) ?_
        · obtain ⟨h0, _⟩ := hV
          have h0 : xv 0 = _ := h0
          simp only [putsOf, List.foldl_cons, List.foldl_nil, List.getD_cons_zero, List.getD_cons_succ, List.getD_nil, cond_true, cond_false, Act.put, List.setIfInBounds_toArray, List.set_cons_zero, List.set_cons_succ, h0] at hb
          clear h0
          subst hb
          rw [if_pos (by rfl)]
          go_wp2_with fail
          exact hK.out _ _ ⟨_, rfl, hS, rfl, AllP.same _⟩
        refine RelySteps.cons (RelyStep.mk [1] [3, 4, 5] rfl rfl rfl (fun xv wS hS hV bq hb K hK => ?_)) ?_
        · obtain ⟨h1, _⟩ := hV
          have h1 : xv 1 = _ := h1
          simp only [putsOf, List.foldl_cons, List.foldl_nil, List.getD_cons_zero, List.getD_cons_succ, List.getD_nil, cond_true, cond_false, Act.put, List.setIfInBounds_toArray, List.set_cons_zero, List.set_cons_succ, h1] at hb
          clear h1
          subst hb
          rw [if_pos (by rfl)]
          go_wp2_with fail
          exact hK.out _ _ ⟨_, rfl, hS, rfl, AllP.same _⟩
        refine RelySteps.cons (RelyStep.mk [] [0, 1, 2, 5, 6] rfl rfl rfl (fun xv wS hS hV bq hb K hK => ?_)) ?_
        · clear hV
          simp only [putsOf, List.foldl_cons, List.foldl_nil, List.getD_cons_zero, List.getD_cons_succ, List.getD_nil, cond_true, cond_false, Act.put, List.setIfInBounds_toArray, List.set_cons_zero, List.set_cons_succ] at hb
          subst hb
          rw [if_pos (by rfl)]
          go_wp2_with fail
          exact hK.out _ _ ⟨_, rfl, hS, rfl, AllP.same _⟩
        refine RelySteps.cons (RelyStep.mk [3] [0, 1, 2, 6] rfl rfl rfl (fun xv wS hS hV bq hb K hK => ?_)) ?_
        · obtain ⟨h3, _⟩ := hV
          have h3 : xv 3 = _ := h3
          simp only [putsOf, List.foldl_cons, List.foldl_nil, List.getD_cons_zero, List.getD_cons_succ, List.getD_nil, cond_true, cond_false, Act.put, List.setIfInBounds_toArray, List.set_cons_zero, List.set_cons_succ, h3] at hb
          clear h3
          subst hb
          rw [if_pos (by rfl)]
          go_wp2_with fail
          exact hK.out _ _ ⟨_, rfl, hS, rfl, AllP.same _⟩
        refine RelySteps.cons (RelyStep.mk [4] [0, 1, 2, 6] rfl rfl rfl (fun xv wS hS hV bq hb K hK => ?_)) ?_
        · obtain ⟨h4, _⟩ := hV
          have h4 : xv 4 = _ := h4
          simp only [putsOf, List.foldl_cons, List.foldl_nil, List.getD_cons_zero, List.getD_cons_succ, List.getD_nil, cond_true, cond_false, Act.put, List.setIfInBounds_toArray, List.set_cons_zero, List.set_cons_succ, h4] at hb
          clear h4
          subst hb
          rw [if_pos (by rfl)]
          go_wp2_with fail
          exact hK.out _ _ ⟨_, rfl, hS, rfl, AllP.same _⟩
        refine RelySteps.cons (RelyStep.mk [2] [3, 4, 5] rfl rfl rfl (fun xv wS hS hV bq hb K hK => ?_)) ?_
        · obtain ⟨h2, _⟩ := hV
          have h2 : xv 2 = _ := h2
          simp only [putsOf, List.foldl_cons, List.foldl_nil, List.getD_cons_zero, List.getD_cons_succ, List.getD_nil, cond_true, cond_false, Act.put, List.setIfInBounds_toArray, List.set_cons_zero, List.set_cons_succ, h2] at hb
          clear h2
          subst hb
          rw [if_pos (by rfl)]
          go_wp2_with fail
          exact hK.out _ _ ⟨_, rfl, hS, rfl, AllP.same _⟩
        refine RelySteps.cons (RelyStep.mk [5] [6] rfl rfl rfl (fun xv wS hS hV bq hb K hK => ?_)) ?_
        · obtain ⟨h5, _⟩ := hV
          have h5 : xv 5 = _ := h5
          simp only [putsOf, List.foldl_cons, List.foldl_nil, List.getD_cons_zero, List.getD_cons_succ, List.getD_nil, cond_true, cond_false, Act.put, List.setIfInBounds_toArray, List.set_cons_zero, List.set_cons_succ, h5] at hb
          clear h5
          subst hb
          rw [if_pos (by rfl)]
          go_wp2_with fail
          exact hK.out _ _ ⟨_, rfl, hS, rfl, AllP.same _⟩
        exact RelySteps.nil
      case rE =>
        intro xv wE hS hV
        have h6 := hV 6 (by decide) (by decide)
        have h7 := hV 7 (by decide) (by decide)
        clear hV
        simp only [putsOf, List.foldl_cons, List.foldl_nil, List.getD_cons_zero, List.getD_cons_succ, List.getD_nil, cond_true, cond_false, Act.put, List.setIfInBounds_toArray, List.set_cons_zero, List.set_cons_succ]
        have h6 : xv 6 = _ := h6
        have h7 : xv 7 = _ := h7
        rw [h6]; clear h6
        rw [h7]; clear h7
        generalize xv 0 = y0 at *
        generalize xv 1 = y1 at *
        generalize xv 2 = y2 at *
        generalize xv 3 = y3 at *
        generalize xv 4 = y4 at *
        generalize xv 5 = y5 at *
        have hbm := hS.below (Nat.le_refl w7.heap.size) (fun _ _ e => e)
        replace HT1 := Lib.hid (HT1.out.below hbm HT1.out.lt)
        replace HA1 := Lib.hid (HA1.out.below hbm HA1.out.lt)
        replace HB := Lib.hid (HB.out.trans (hbm.mono HB.out.size))
        clear hS hbm
        generalize wE = w8 at *
        clear hwk hnz hqi hri hwq hwr
        go_wp2_with fail
        refine (awake16 _).mono ?_
        rintro q w9 ⟨rfl, hbm⟩
        replace HT1 := Lib.hid (HT1.out.below hbm HT1.out.lt)
        replace HA1 := Lib.hid (HA1.out.below hbm HA1.out.lt)
        replace HB := Lib.hid (HB.out.trans (hbm.mono HB.out.size))
        clear hbm
        have s0 := (HT1.out.cell 0).trans (show _ = some (Value.int .i64 (rm : Int)) from rfl)
        have s6 := (HT1.out.cell 6).trans (show _ = some (Value.int .u64 ((qm * k + rm : Nat) : Int)) from rfl)
        have sl := HT1.out.lt
        have ka0 := (HA1.out.cell 0).trans (show _ = some (Value.int .i64 9) from rfl)
        have ka1 := (HA1.out.cell 1).trans (show _ = some (Value.int .i64 0) from rfl)
        have ka2 := (HA1.out.cell 2).trans (show _ = some (Value.int .i64 0) from rfl)
        have ka3 := (HA1.out.cell 3).trans (show _ = some (Value.int .i64 0) from rfl)
        have ka4 := (HA1.out.cell 4).trans (show _ = some (Value.int .u64 0) from rfl)
        have ka5 := (HA1.out.cell 5).trans (show _ = some (Value.int .u64 0) from rfl)
        have kal := HA1.out.lt
        have hq1 : ∀ q : World, (binOp .eql 31 (.agg #[.int .i64 9, .int .i64 0, .int .i64 0, .int .i64 0, .int .u64 0, .int .u64 0]) (.agg #[.int .i64 9, .int .i64 0, .int .i64 0, .int .i64 0, .int .u64 0, .int .u64 0])).run Try.prog q = .ok (.bool true) q := fun q => akEql ⟨9, 0, 0, 0, 0, 0⟩ ⟨9, 0, 0, 0, 0, 0⟩ q
        have hgd := akGuard
        have hhd := akHeld
        have hb2 : qm * k ≤ 256 * 255 := Nat.mul_le_mul hqb hm5
        have hcm : ((qm * k : Nat) : Int) = (qm : Int) * (k : Int) := by push_cast; rfl
        have hcs : (((qm * k + rm : Nat)) : Int) = (qm : Int) * (k : Int) + (rm : Int) := by push_cast; rfl
        have hw1 : IntKind.i64.wrap ((qm : Int) * (k : Int)) = (qm : Int) * (k : Int) := IntWalk.i64_in _ (by rw [← hcm]; omega)
        have hw2 : IntKind.i64.wrap ((qm : Int) * (k : Int) + (rm : Int)) = (qm : Int) * (k : Int) + (rm : Int) := IntWalk.i64_in _ (by rw [← hcm]; omega)
        have hw3 : IntKind.u64.wrap ((qm : Int) * (k : Int) + (rm : Int)) = (qm : Int) * (k : Int) + (rm : Int) := by rw [← hcm, IntKind.wrap_u64]; omega
        rw [hcs] at s6
        have e1 : ((rm : Int) == (rm : Int)) = true := by rw [beq_iff_eq]
        have e2 : (((qm : Int) * (k : Int) + (rm : Int)) == ((qm : Int) * (k : Int) + (rm : Int))) = true := by rw [beq_iff_eq]
        clear hcm hcs hb2
        go_wp2
        go_ret
        exact ⟨rfl, HB.out⟩
theorem spins_walk (n : Int) (seen : Bool) (w : World) (h : (Lit.int .i64 n).wf = true) :
    Calls Try.prog 7 #[.int .i64 n, .bool seen] w fun q w' => q = .returned (.bool true) ∧ Below w.heap.size w w' := by
  cases seen
  · exact spins_false n w h
  · exact spins_true n w h
end Go.Proofs.Ytiegmpjoiekekaa
