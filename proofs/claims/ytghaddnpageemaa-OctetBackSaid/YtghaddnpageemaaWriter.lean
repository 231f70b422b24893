/-
  What the package octet's writer does, each for every input; and Reader.Four.
-/
import Derived.Test.YtghaddnpageemaaOctet
import Derived.Laws.BitsAllLaws
import Derived.Lib.BufferRead
namespace Go.Proofs.Ytghaddnpageemaa
open Go.RowKit
set_option linter.unusedVariables false

theorem Try.infoU8 : (Try.prog.info? 5).map (fun i => (i.zero, i.size, i.bytes)) = some (some (.int .u8 0), 1, 1) := by kernel_rfl

/-- A writer that has the bytes b; its row lies from block B on. -/
def WrAt (w : World) (B g : Nat) (b : ByteArray) : Prop := B ≤ g ∧ ∃ v, Lies w g 48 #[v] ∧ w.ownsRow B 5 1 v b.size (Lib.strCells b)
/-- What a writer's call may write: its own block, and rows of bytes from B on. -/
def wrRows (w : World) (B g : Nat) : Nat → Prop := fun k => B ≤ k ∧ (k = g ∨ ∃ cur, Lies w k 5 cur)
theorem wrRows_of (w : World) {B g : Nat} {v : Value} {n : Nat} {xs : List Value} (hb : B ≤ g) (h : w.ownsRow B 5 1 v n xs) : ∀ k, v.ownBlock = some k → wrRows w B g k := by
  intro k hk
  rcases owns_row h with ⟨rfl, _⟩ | ⟨r, cap, cur, rfl, hr, hl, _⟩
  · cases hk
  · obtain rfl : r = k := by simpa [Value.ownBlock] using hk
    exact ⟨hr, .inr ⟨cur, hl⟩⟩
theorem WrAt.kept {S : Nat → Prop} {w w' : World} {B g : Nat} {b : ByteArray} (h : WrAt w B g b) (k : Kept S w w') (h1 : ¬ S g) (h2 : ∀ r cur, Lies w r 5 cur → ¬ S r) : WrAt w' B g b := by
  obtain ⟨hb, v, hl, ho⟩ := h
  exact ⟨hb, v, hl.kept k h1, owns_kept ho k (fun r cur _ hl => h2 r cur hl)⟩

theorem onto_wr {w a b : World} {B g : Nat} (h : Below w.heap.size w a) (k : Kept (wrRows a B g) a b) (hg : w.heap.size ≤ B) : Below w.heap.size w b :=
  onto h k (fun i hi h => by have := h.1; omega)
theorem RdAt.kept_wr {w w' : World} {g B k : Nat} {s b : ByteArray} {i : Nat} (h : RdAt w g s i) (hk : Kept (wrRows w B k) w w') (hg : WrAt w B k b) : RdAt w' g s i := by
  refine h.kept hk ?_
  rintro ⟨_, h2⟩
  obtain ⟨_, v, hl, _⟩ := hg
  rcases h2 with rfl | ⟨cur, h2⟩
  · exact absurd (h.1.same hl).1 (by decide)
  · exact absurd (h.1.same h2).1 (by decide)
/-- A store of a slice that the call owns, into the one field. -/
theorem wr_store {w0 w1 : World} {B g : Nat} {v v' : Value} {b b' : ByteArray} (hb : B ≤ g) (hl : Lies w0 g 48 #[v]) (ho : w0.ownsRow B 5 1 v b.size (Lib.strCells b))
    (ho' : w1.ownsRow B 5 1 v' b'.size (Lib.strCells b')) (hg : w0.grownBy w1 v.ownBlock) :
    WrAt (w1.setCell ⟨g, 0, none⟩ v') B g b' ∧ Kept (wrRows w0 B g) w0 (w1.setCell ⟨g, 0, none⟩ v') ∧ Lies w1 g 48 #[v] := by
  have k1 : Kept (fun k => v.ownBlock = some k) w0 w1 := Kept.of_grown hg
  have hne : ¬ (v.ownBlock = some g) := by
    intro hv
    rcases owns_row ho with ⟨rfl, _⟩ | ⟨r, cap, cur, rfl, hr, hl2, _⟩
    · cases hv
    · obtain rfl : r = g := by simpa [Value.ownBlock] using hv
      have := (hl2.same hl).1
      simp at this
  have hl1 := hl.kept k1 hne
  refine ⟨⟨hb, v', ?_, owns_put ho' hl1 (by decide) 0 v'⟩, (k1.mono fun k _ hk => wrRows_of w0 hb ho k hk).trans (Kept.put _ g 0 _) (fun i _ (h : i = g) => by subst h; exact ⟨hb, .inl rfl⟩), hl1⟩
  have := hl1.put 0 v'
  simpa using this

theorem octetText (B g : Nat) (b s : ByteArray) (w : World) (h : WrAt w B g b) (hs : b.size + s.size ≤ 140737488355328) : Calls Try.prog 17 #[.pointer (some ⟨g, 0, none⟩), .string s] w fun e w' =>
    e = .returned (.tuple #[]) ∧ WrAt w' B g (b ++ s) ∧ Kept (wrRows w B g) w w' := by
  obtain ⟨hb, v, hl, ho⟩ := h
  obtain ⟨i0, hi, hz0, hz1, hz2⟩ := info_parts Try.infoU8
  have c0 : w.cell? ⟨g, 0, none⟩ = some v := hl.cell 0
  have hgs := hl.lt
  have HL := Lib.hid hl
  clear hl
  go_enter Try.func17, Try.ntmps17
  go_wp2_with (first
    | (at_builtin; refine Lib.wpList_append_own_string _ rfl (.tmp 10) (.tmp 11) 36 9 rfl B 5 i0 Try.underlying36 Try.underlying9 hi hz0 hz1 hz2 v b.size (Lib.strCells b) rfl ho s rfl (by unfold maxLen; omega) hs (by omega) ?_))
  intro v' w1 ho' hgr _
  have ho2 : w1.ownsRow B 5 1 v' (b ++ s).size (Lib.strCells (b ++ s)) := by rw [strCells_append, ByteArray.size_append]; exact ho'
  obtain ⟨r1, r2, r3⟩ := wr_store hb HL.out ho ho2 hgr
  have d0 : w1.cell? ⟨g, 0, none⟩ = some v := r3.cell 0
  have d1 : w1.frozen? ⟨g, 0, none⟩ = false := r3.free 0
  have R1 := Lib.hid r1
  have R2 := Lib.hid r2
  clear r1 r2 r3 c0 hgr ho HL
  rcases owns_row ho' with ⟨rfl, _⟩ | ⟨r, cap, cur, rfl, _⟩
  all_goals
    clear ho' ho2
    go_wp2
    go_end0
    exact ⟨rfl, R1.out, R2.out⟩

/-- The bytes that a slice that came along leads to. -/
def SrcAt (w : World) (A : Option Addr) (x : ByteArray) : Prop := ∀ j u, (Lib.strCells x)[j]? = some u → ∃ ad, A = some ad ∧ w.cell? (ad.add j) = some u
theorem octetPutSome (B g : Nat) (b x : ByteArray) (ad : Addr) (m c : Nat) (w : World) (hm : x.size = m) (h : WrAt w B g b) (hx : ∀ j u, (Lib.strCells x)[j]? = some u → w.cell? (ad.add j) = some u) (hs : b.size + x.size ≤ 140737488355328) :
    Calls Try.prog 18 #[.pointer (some ⟨g, 0, none⟩), .slice (some ad) m c] w fun e w' =>
    e = .returned (.tuple #[]) ∧ WrAt w' B g (b ++ x) ∧ Kept (wrRows w B g) w w' := by
  subst hm
  obtain ⟨hb, v, hl, ho⟩ := h
  obtain ⟨i0, hi, hz0, hz1, hz2⟩ := info_parts Try.infoU8
  have c0 : w.cell? ⟨g, 0, none⟩ = some v := hl.cell 0
  have hgs := hl.lt
  have HL := Lib.hid hl
  have HX := Lib.hid hx
  clear hl hx
  go_enter Try.func18, Try.ntmps18
  go_wp2_with (first
    | (at_builtin; refine wpList_append_own _ rfl (.tmp 10) (.tmp 11) 36 rfl B 5 i0 (.int .u8 0) 1 1 Try.underlying36 hi hz0 hz1 hz2 rfl (by decide) v b.size (Lib.strCells b) rfl ho ad x.size c (Lib.strCells x) rfl (by rw [Lib.strCells_length, Nat.mul_one]) HX.out (Lib.strCells_oneCell x) (by unfold maxLen; omega) (by omega) (by omega) ?_))
  intro v' w1 ho' hgr _
  have ho2 : w1.ownsRow B 5 1 v' (b ++ x).size (Lib.strCells (b ++ x)) := by rw [strCells_append, ByteArray.size_append]; exact ho'
  obtain ⟨r1, r2, r3⟩ := wr_store hb HL.out ho ho2 hgr
  have d0 : w1.cell? ⟨g, 0, none⟩ = some v := r3.cell 0
  have d1 : w1.frozen? ⟨g, 0, none⟩ = false := r3.free 0
  have R1 := Lib.hid r1
  have R2 := Lib.hid r2
  clear r1 r2 r3 c0 hgr ho HL HX
  rcases owns_row ho' with ⟨rfl, _⟩ | ⟨r, cap, cur, rfl, _⟩
  all_goals
    clear ho' ho2
    go_wp2
    go_end0
    exact ⟨rfl, R1.out, R2.out⟩

/-- A number's four bytes, the lowest first. -/
def fourBytes (n : Nat) : ByteArray := ⟨#[UInt8.ofNat n, UInt8.ofNat (n / 256), UInt8.ofNat (n / 65536), UInt8.ofNat (n / 16777216)]⟩
theorem fourBytes_cells (n : Nat) (hn : n < 4294967296) : Lib.strCells (fourBytes n) = [.int .u8 ((n : Int) % 256), .int .u8 ((n : Int) / 256 % 256), .int .u8 ((n : Int) / 65536 % 256), .int .u8 ((n : Int) / 16777216)] := by
  simp [Lib.strCells, fourBytes]; omega
theorem octetPutFour (B g : Nat) (b : ByteArray) (n : Nat) (w : World) (h : WrAt w B g b) (hn : n < 4294967296) (hs : b.size + 4 ≤ 140737488355328) :
    Calls Try.prog 19 #[.pointer (some ⟨g, 0, none⟩), .int .u32 n] w fun e w' =>
    e = .returned (.tuple #[]) ∧ WrAt w' B g (b ++ fourBytes n) ∧ Kept (wrRows w B g) w w' := by
  have HC := Lib.hid (fourBytes_cells n hn)
  have hgl : g < w.heap.size := by obtain ⟨_, v, hl, _⟩ := h; exact hl.lt
  go_enter Try.func19, Try.ntmps19
  go_wp2_with fail
  refine (octetPutSome B g b (fourBytes n) ⟨w.heap.size, 0, none⟩ 4 4 _ rfl (h.kept (Kept.alloc noRow _ _) (fun h => h) (fun _ _ _ h => h)) ?_ hs).mono ?_
  · intro j u hu
    rw [HC.out] at hu
    rw [addr_add, (Lies.made w _ _).cell j, ← hu]
    simp
  rintro e w' ⟨rfl, h1, h2⟩
  go_wp2
  go_end0
  refine ⟨rfl, h1, Kept.trans (S := wrRows w B g) (Kept.alloc _ w _) h2 ?_⟩
  rintro i hi ⟨a1, a2⟩
  refine ⟨a1, ?_⟩
  rcases a2 with a2 | ⟨cur, a2⟩
  · exact .inl a2
  · exact .inr ⟨cur, (heap_alloc_old w _ hi).symm.trans a2⟩
theorem octetString (B g : Nat) (b : ByteArray) (w : World) (h : WrAt w B g b) (hs : b.size ≤ maxLen) :
    Calls Try.prog 20 #[.pointer (some ⟨g, 0, none⟩)] w fun e w' =>
    e = .returned (.string b) ∧ w = w' := by
  obtain ⟨hb, v, hl, ho⟩ := h
  have c0 : w.cell? ⟨g, 0, none⟩ = some v := hl.cell 0
  clear hl
  rcases owns_row ho with ⟨rfl, h0, _⟩ | ⟨r, cap, cur, rfl, _⟩
  · have hb0 : b = ByteArray.empty := ByteArray.size_eq_zero_iff.1 h0
    subst hb0
    have hcv := Lib.run_convert_nil_bytes (P := Try.prog) w 36 9 5 0 Try.underlying36 Try.underlying5 Try.underlying9
    clear ho h0
    go_enter Try.func20, Try.ntmps20
    go_wp2
    go_ret
    exact ⟨rfl, rfl⟩
  · have hcv := Lib.run_convert_whole (P := Try.prog) w 36 5 9 Try.underlying36 Try.underlying5 Try.underlying9 r 0 b (fun i hi => by
      rw [Nat.zero_add, ← addr_add]
      exact ho.cells (g := r) rfl i _ (by simp only [Lib.strCells, List.getElem?_map, byte_at b i hi]; rfl)) cap
    clear ho
    go_enter Try.func20, Try.ntmps20
    go_wp2
    go_ret
    exact ⟨rfl, rfl⟩

/-- Four bytes' number, the lowest first. -/
def fourNum (s : ByteArray) (i : Nat) : Nat := (s.data.toList.getD i 0).toNat + (s.data.toList.getD (i + 1) 0).toNat * 256 + (s.data.toList.getD (i + 2) 0).toNat * 65536 + (s.data.toList.getD (i + 3) 0).toNat * 16777216
theorem or_add {a b k : Nat} (ha : a < 2 ^ k) : a ||| b * 2 ^ k = a + b * 2 ^ k := by
  have := Nat.shiftLeft_add_eq_or_of_lt ha b
  rw [Nat.shiftLeft_eq] at this
  rw [Nat.or_comm, ← this, Nat.add_comm]
theorem or_four (a b c d : Nat) (ha : a < 256) (hb : b < 256) (hc : c < 256) (hd : d < 256) :
    bits .or .u32 (bits .or .u32 (bits .or .u32 a (b * 256 : Nat)) (c * 65536 : Nat)) (d * 16777216 : Nat) = ((a + b * 256 + c * 65536 + d * 16777216 : Nat) : Int) := by
  have e1 : a ||| b * 256 = a + b * 256 := or_add (k := 8) (by omega)
  have e2 : (a + b * 256) ||| c * 65536 = a + b * 256 + c * 65536 := or_add (k := 16) (by omega)
  have e3 : (a + b * 256 + c * 65536) ||| d * 16777216 = a + b * 256 + c * 65536 + d * 16777216 := or_add (k := 24) (by omega)
  rw [u32_or_nat _ _ (by omega) (by omega), e1, u32_or_nat _ _ (by omega) (by omega), e2, u32_or_nat _ _ (by omega) (by omega), e3]
theorem octetFourEnd (g : Nat) (s : ByteArray) (i : Nat) (w : World) (h : RdAt w g s i) (hi : s.size < i + 4) : Calls Try.prog 13 #[.pointer (some ⟨g, 0, none⟩)] w fun e w' =>
    e = .returned (.tuple #[.int .u32 0, .int .i64 2]) ∧ ∃ n, w' = w.drewN n := by
  go_enter Try.func13, Try.ntmps13
  go_wp2_with fail
  refine (octetTakeEnd g s i 4 w h (by omega)).mono ?_
  rintro e w' ⟨rfl, m, rfl⟩
  go_wp2
  go_ret2
  exact ⟨rfl, _, rfl⟩
theorem octetFourOk (g : Nat) (s : ByteArray) (i : Nat) (w : World) (h : RdAt w g s i) (hi : i + 4 ≤ s.size) : Calls Try.prog 13 #[.pointer (some ⟨g, 0, none⟩)] w fun e w' =>
    e = .returned (.tuple #[.int .u32 (fourNum s i), .int .i64 0]) ∧ RdAt w' g s (i + 4) ∧ Kept (oneRow g) w w' := by
  obtain ⟨t, ht⟩ : ∃ t, t = s.extract i (i + 4) := ⟨_, rfl⟩
  have hts : t.size = 4 := by rw [ht, ByteArray.size_extract]; omega
  have g0 : 0 < t.size := by omega
  have g1 : 1 < t.size := by omega
  have g2 : 2 < t.size := by omega
  have g3 : 3 < t.size := by omega
  have hb : ∀ j (hj : j < t.size), (t[j]'hj).toNat = (s.data.toList.getD (i + j) 0).toNat := by
    intro j hj
    subst ht
    rw [List.getD_eq_getElem?_getD, byte_at s (i + j) (by omega)]
    simp [ByteArray.getElem_extract]
  have HB := Lib.hid hb
  clear hb hts
  go_enter Try.func13, Try.ntmps13
  go_wp2_with fail
  refine (octetTakeOk g s i 4 w h (by omega) (by omega)).mono ?_
  rintro e w' ⟨rfl, hr, hk⟩
  rw [show (4 : Int).toNat = 4 from rfl] at *
  rw [← ht]
  clear ht
  go_wp2_with fail
  have k1 : (1 : Int) < (t.size : Int) := by omega
  have k2 : (2 : Int) < (t.size : Int) := by omega
  have k3 : (3 : Int) < (t.size : Int) := by omega
  have u0 := (t[0]'g0).toNat_lt
  have u1 := (t[1]'g1).toNat_lt
  have u2 := (t[2]'g2).toNat_lt
  have u3 := (t[3]'g3).toNat_lt
  go_quiet (fail)
  go_wp2
  go_ret2
  refine ⟨ret_two (v_int ?_) rfl, hr.kept (Kept.drewN noRow _ _) (fun h => h), hk.trans (Kept.drewN _ _ _) (fun _ _ h => h)⟩
  refine Eq.trans ?_ ((or_four _ _ _ _ u0 u1 u2 u3).trans ?_)
  · simp only [Int.natCast_mul]; rfl
  · rw [fourNum, HB.out 0 g0, HB.out 1 g1, HB.out 2 g2, HB.out 3 g3, Nat.add_zero]

theorem fourNum_lt (s : ByteArray) (i : Nat) : fourNum s i < 4294967296 := by
  unfold fourNum
  have h : ∀ b : UInt8, b.toNat < 256 := fun b => b.toNat_lt
  have h0 := h (s.data.toList.getD i 0)
  have h1 := h (s.data.toList.getD (i + 1) 0)
  have h2 := h (s.data.toList.getD (i + 2) 0)
  have h3 := h (s.data.toList.getD (i + 3) 0)
  omega
theorem four_back (n : Nat) (hn : n < 4294967296) : fourNum (fourBytes n) 0 = n := by
  simp [fourNum, fourBytes]; omega

theorem WrAt.fresh (w : World) (B : Nat) (hB : B ≤ w.heap.size) : WrAt (w.alloc (.cells #[.slice none 0 0] 48)) B w.heap.size ByteArray.empty :=
  ⟨hB, _, Lies.made _ _ _, World.ownsRow_nil _ _ _ _⟩
theorem WrAt.one {w w' : World} {B k g : Nat} {b : ByteArray} (h : WrAt w B k b) (hk : Kept (oneRow g) w w') {s : ByteArray} {i : Nat} (hg : RdAt w g s i) : WrAt w' B k b := by
  refine h.kept hk ?_ ?_
  · rintro (e : k = g)
    subst e
    obtain ⟨_, v, hl, _⟩ := h
    exact absurd (hl.same hg.1).1 (by decide)
  · rintro r cur hl (e : r = g)
    subst e
    exact absurd (hl.same hg.1).1 (by decide)
end Go.Proofs.Ytghaddnpageemaa
