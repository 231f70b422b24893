import Derived.Test.YtebgcehcnenjiaaDoorVarint
namespace Go.Proofs.YtebgcehcnenjiaaDoor
open Go.RowKit
set_option linter.unusedVariables false
set_option linter.unusedSimpArgs false
theorem Tryd.infoU64 : (Tryd.prog.info? 22).map (fun i => (i.zero, i.size, i.bytes)) = some (some (.int .u64 0), 1, 8) := by kernel_rfl
theorem rdV_ok (f : Nat) : ∀ k v l, (rdV f k v l).2.1 = 0 → 1 ≤ (rdV f k v l).2.2 := by
  induction f with
  | zero => intro k v l h; simp [rdV] at h
  | succ f ih =>
    intro k v l
    cases l with
    | nil => simp [rdV]
    | cons b l =>
      rw [rdV]
      split
      · simp
      · split
        · simp
        · simp
theorem rd_ok (l : List UInt8) (h : (rd l).2.1 = 0) : 1 ≤ (rd l).2.2 := rdV_ok _ _ _ _ h
theorem rdV_bound (f : Nat) : ∀ k v l, v ≤ 18446744073709551615 → k + f = 10 → v < 128 ^ k → (rdV f k v l).1 ≤ 18446744073709551615 := by
  induction f with
  | zero => intro k v l _ _ _; simp [rdV]
  | succ f ih =>
    intro k v l hv hk hp
    cases l with
    | nil => simp [rdV]
    | cons b l =>
      cases hw : wrongB k b
      · have hg := or_group_byte k v b (by omega) hp hw
        by_cases hb : b.toNat < 128
        · rw [rdV_last _ _ _ _ _ hw hb]
          have := hg.2.2
          rw [Nat.mod_eq_of_lt hb] at this
          exact this
        · rw [rdV_more _ _ _ _ _ hw hb, show b.toNat - 128 = b.toNat % 128 by have := b.toNat_lt; omega]
          exact ih _ _ _ hg.2.2 (by omega) hg.2.1
      · rw [rdV_wrong _ _ _ _ _ hw]; simp
theorem rd_bound (l : List UInt8) : (rd l).1 ≤ 18446744073709551615 := rdV_bound 10 0 0 l (by omega) rfl (by omega)
/-- A list of numbers as cells. -/
def cells64 (l : List Nat) : List Value := l.map fun (n : Nat) => Value.int .u64 (n : Int)
theorem cells64_push (d : List Nat) (n : Nat) : cells64 d ++ [.int .u64 (n : Int)] = cells64 (d ++ [n]) := by simp [cells64]
theorem cells64_get {l : List Nat} {k n : Nat} (h : l[k]? = some n) : (cells64 l)[k]? = some (.int .u64 (n : Int)) := by simp [cells64, h]
/-- A list of numbers that came along, as naturals. -/
def ArgNats (w : World) (a : Option Addr) (len cap : Nat) (l : List Nat) : Prop := (a = none → len = 0 ∧ cap = 0) ∧ len ≤ cap ∧ cap ≤ maxLen ∧ l.length = len ∧ ArgRow w a (cells64 l) ∧ ∀ n ∈ l, n < M64
theorem argNats {w : World} {a : Option Addr} {len cap : Nat} {zs : List Int} (h : ArgInts .u64 w a len cap zs) : ∃ l, ArgNats w a len cap l := by
  obtain ⟨h0, h1, h2, h3, h4, h5⟩ := h
  have hb : ∀ z ∈ zs, 0 ≤ z ∧ z < 18446744073709551616 := fun z hz => by
    have := Go.bounds_u64 (h5 z hz)
    omega
  have e : zs.map (Value.int .u64) = cells64 (zs.map Int.toNat) := by
    unfold cells64
    rw [List.map_map]
    refine List.map_congr_left fun z hz => ?_
    have := hb z hz
    simp only [Function.comp]
    rw [show ((z.toNat : Nat) : Int) = z by omega]
  refine ⟨zs.map Int.toNat, h0, h1, h2, by simpa using h3, by rw [← e]; exact h4, fun n hn => ?_⟩
  obtain ⟨z, hz, rfl⟩ := List.mem_map.1 hn
  have := hb z hz
  unfold M64; omega
theorem ArgNats.seq {w w' : World} {a : Option Addr} {len cap : Nat} {l : List Nat} (h : ArgNats w a len cap l) (hb : Below w.heap.size w w') : SeqAt w' (.slice a len cap) (cells64 l) := by
  obtain ⟨_, h1, h2, h3, h4, _⟩ := h
  exact SeqAt.of_arg h4 hb (by rw [show (cells64 l).length = l.length by simp [cells64]]; exact h3) h1 h2
theorem cells64_length (l : List Nat) : (cells64 l).length = l.length := by simp [cells64]
theorem cells64_one (l : List Nat) : ∀ u ∈ cells64 l, u.oneCell' = true := fun u hu => by
  obtain ⟨n, _, rfl⟩ := List.mem_map.1 hu; rfl
end Go.Proofs.YtebgcehcnenjiaaDoor
