/- The walk of read. -/
import Derived.Test.YtnjapbfnodfgpaaW9
namespace Go.Proofs.Ytnjapbfnodfgpaa.Rk
open Go Go.RowKit
theorem add_zero (a : Addr) : a.add 0 = a := by
  obtain ⟨b, o, v⟩ := a
  unfold Addr.add
  simp
/-- The number of k bytes with which these begin, if there are so many and not too many. -/
def readR (l : List Int) (k : Nat) : Option Int := if 8 < k ∨ l.length < k ∨ (0 < k ∧ l.getD 0 0 = 0) then none else some (val (l.take k))
def readV (r : Option Int) : Value := .tuple #[.int .u64 (r.getD 0), .bool r.isSome]
set_option maxHeartbeats 1000000 in
theorem read_long (ao : Option Addr) (n c k : Nat) (w : World) (h : 8 < k) (hk : k ≤ 256) :
    Calls Try.prog 31 #[.slice ao n c, .int .i64 k] w fun e w' => e = .returned (.tuple #[.int .u64 0, .bool false]) ∧ Below w.heap.size w w' := by
  go_enter Try.func31, Try.ntmps31
  go_wp2
  go_ret2
  exact ⟨rfl, Below.refl _ _⟩
set_option maxHeartbeats 1000000 in
theorem read_short (ao : Option Addr) (n c k : Nat) (w : World) (h : n < k) (hk : k ≤ 8) :
    Calls Try.prog 31 #[.slice ao n c, .int .i64 k] w fun e w' => e = .returned (.tuple #[.int .u64 0, .bool false]) ∧ Below w.heap.size w w' := by
  go_enter Try.func31, Try.ntmps31
  go_wp2
  go_ret2
  exact ⟨rfl, Below.refl _ _⟩
set_option maxHeartbeats 1000000 in
theorem read_null (a : Addr) (n c k : Nat) (w : World) (h : k ≤ n) (h0 : 0 < k) (hk : k ≤ 8) (hc : w.cell? a = some (.int .u8 0)) :
    Calls Try.prog 31 #[.slice (some a) n c, .int .i64 k] w fun e w' => e = .returned (.tuple #[.int .u64 0, .bool false]) ∧ Below w.heap.size w w' := by
  go_enter Try.func31, Try.ntmps31
  go_wp2
  go_ret2
  exact ⟨rfl, Below.refl _ _⟩
set_option maxHeartbeats 1000000 in
theorem read_none (ao : Option Addr) (n c : Nat) (w : World) (_hn : n ≤ c) (_hc : c ≤ maxLen) :
    Calls Try.prog 31 #[.slice ao n c, .int .i64 0] w fun e w' => e = .returned (.tuple #[.int .u64 0, .bool true]) ∧ Below w.heap.size w w' := by
  unfold maxLen at _hc
  go_enter Try.func31, Try.ntmps31
  go_wp2
  refine wp_loop_rounds 1 ?_
  rw [rounds_succ]
  go_wp2
  go_ret2
  exact ⟨rfl, Below.refl _ _⟩
set_option maxHeartbeats 1000000 in
theorem read_some (a : Addr) (n c k : Nat) (l : List Int) (w : World) (hnc : n ≤ c) (_hcm : c ≤ maxLen) (hl : l.length = n) (h : k ≤ n) (h0 : 0 < k) (hk : k ≤ 8) (ha0 : a.block < w.heap.size)
    (hca : ∀ k, k < n → w.cell? (a.add k) = some (.int .u8 (l.getD k 0))) (hb : ∀ x ∈ l, 0 ≤ x ∧ x ≤ 255) (hz : ¬ l.getD 0 0 = 0) :
    Calls Try.prog 31 #[.slice (some a) n c, .int .i64 k] w fun e w' => e = .returned (.tuple #[.int .u64 (val (l.take k)), .bool true]) ∧ Below w.heap.size w w' := by
  unfold maxLen at _hcm
  have c0 := hca 0 (by omega)
  rw [add_zero] at c0
  have hz1 : (l.getD 0 0 == 0) = false := by rw [beq_eq_false_iff_ne]; exact hz
  obtain ⟨y, hy⟩ : ∃ y, y = l.getD 0 0 := ⟨_, rfl⟩
  rw [← hy] at c0 hz1
  have HA := Lib.hid hca
  have HL := Lib.hid hl
  have Hb := Lib.hid hb
  clear hca hl hb hz hy
  go_enter Try.func31, Try.ntmps31
  go_wp2
  go_loopw [6, 31] (fun v i wr => ∃ j : Nat, j ≤ k ∧ i = .int .i64 j ∧ v = .int .u64 (val (l.take j)) ∧ Below w.heap.size w wr) (fun _ i _ => k - (intOf i).toNat)
  case atStart => exact ⟨0, Nat.zero_le _, rfl, rfl, Below.refl _ _⟩
  case round =>
    obtain ⟨j, hj, rfl, rfl, hB⟩ := hrel
    have hv := val_bound l Hb.out j (by rw [HL.out]; omega)
    by_cases hlt : j < k
    · have c1 := (hB.cell (p := a.add j) (by rw [add_block]; exact ha0)).trans (HA.out j (by omega))
      have hx := Hb.out _ (getD_mem (by rw [HL.out]; omega : j < l.length))
      have Hn := Lib.hid (val_take (by rw [HL.out]; omega : j < l.length))
      have hv2 : val (l.take j) < 72057594037927936 := Int.lt_of_lt_of_le hv.2 (by
        have : (256 : Int) ^ j ≤ 256 ^ 7 := by
          rw [show (256 : Int) = ((256 : Nat) : Int) from rfl, ← Int.natCast_pow, ← Int.natCast_pow]
          exact Int.ofNat_le.2 (Nat.pow_le_pow_right (by decide) (by omega))
        simpa using this)
      have hv1 := hv.1
      clear hv
      generalize l.getD j 0 = x at *
      generalize val (l.take j) = V at *
      have hor := Lib.hid (or_byte V x hv1 hv2 hx.1 hx.2)
      go_wp2
      go_roundw
      case rel => exact ⟨j + 1, by omega, by go_num, by rw [Hn.out, hor.out], hB⟩
      case measure => simp [intOf]; omega
    · obtain rfl : j = k := by omega
      clear hv
      go_wp2
      go_ret2
      exact ⟨rfl, hB⟩
/-- read: the number, and whether there is one. -/
theorem read_any (ao : Option Addr) (n c k : Nat) (l : List Int) (w : World) (hnc : n ≤ c) (hcm : c ≤ maxLen) (hl : l.length = n) (hk : k ≤ 256) (ha : Rd w ao l) (hb : ∀ x ∈ l, 0 ≤ x ∧ x ≤ 255) :
    Calls Try.prog 31 #[.slice ao n c, .int .i64 k] w fun e w' => e = .returned (.tuple #[.int .u64 ((readR l k).getD 0), .bool (readR l k).isSome]) ∧ Below w.heap.size w w' := by
  unfold readR
  by_cases h1 : 8 < k
  · rw [if_pos (.inl h1)]
    exact read_long ao n c k w h1 hk
  by_cases h2 : n < k
  · rw [if_pos (.inr (.inl (by omega)))]
    exact read_short ao n c k w h2 (by omega)
  by_cases h3 : k = 0
  · subst h3
    rw [if_neg (by omega)]
    exact read_none ao n c w hnc hcm
  have hne : l ≠ [] := fun e => by subst e; simp at hl; omega
  obtain ⟨a, rfl, a1, a2⟩ := ha.here hne
  by_cases h4 : l.getD 0 0 = 0
  · rw [if_pos (.inr (.inr ⟨by omega, h4⟩))]
    have := a2 0 (by omega)
    rw [add_zero, h4] at this
    exact read_null a n c k w (by omega) (by omega) (by omega) this
  · rw [if_neg (by rw [hl]; omega)]
    exact read_some a n c k l w hnc hcm hl (by omega) (by omega) (by omega) a1 (by rw [← hl]; exact a2) hb h4
end Go.Proofs.Ytnjapbfnodfgpaa.Rk
