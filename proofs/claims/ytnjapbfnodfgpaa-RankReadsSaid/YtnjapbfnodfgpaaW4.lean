/- The walk of write. -/
import Derived.Test.YtnjapbfnodfgpaaW3
namespace Go.Proofs.Ytnjapbfnodfgpaa.Rk
open Go Go.RowKit
/-- What stands there behind i rounds. -/
def wrL (k n i : Nat) : List Int := List.replicate (k - i) (0 : Int) ++ (be k n).drop (k - i)
theorem wrL_zero (k n : Nat) : wrL k n 0 = List.replicate k 0 := by
  unfold wrL
  rw [Nat.sub_zero, List.drop_of_length_le (by rw [be_length]; omega), List.append_nil]
theorem wrL_all (k n : Nat) : wrL k n k = be k n := by unfold wrL; simp
theorem wrL_length (k n i : Nat) (_h : i ≤ k) : (wrL k n i).length = k := by unfold wrL; simp [be_length]
theorem wrL_set (k n i : Nat) (h : i < k) : (bs (wrL k n i)).set (k - 1 - i) (.int .u8 ((n / 256 ^ i % 256 : Nat) : Int)) = bs (wrL k n (i + 1)) := by
  obtain ⟨m, rfl⟩ : ∃ m, k = m + 1 + i := ⟨k - 1 - i, by omega⟩
  have e1 : m + 1 + i - 1 - i = m := by omega
  have e2 : m + 1 + i - i = m + 1 := by omega
  have e3 : m + 1 + i - (i + 1) = m := by omega
  have hg := be_get (m + 1 + i) n m (by omega)
  rw [show m + 1 + i - 1 - m = i by omega] at hg
  unfold wrL bs
  rw [e1, e2, e3, drop_at (by rw [be_length]; omega : m < (be (m + 1 + i) n).length), hg, List.replicate_succ']
  simp
theorem wrL_zero' (k n : Nat) : List.replicate k (Value.int .u8 0) = bs (wrL k n 0) := by
  rw [wrL_zero]; simp [bs]
theorem byte_at (n j : Nat) : (n : Int) / 2 ^ (8 * j) % 256 = ((n / 256 ^ j % 256 : Nat) : Int) := by
  have e : (2 : Int) ^ (8 * j) = ((256 ^ j : Nat) : Int) := by rw [show (256 : Nat) = 2 ^ 8 by decide, ← Nat.pow_mul, Int.natCast_pow]; rfl
  rw [e]; omega
set_option maxHeartbeats 2000000 in
theorem write_any (n : Nat) (hn : n < 18446744073709551616) (w : World) :
    Calls Try.prog 28 #[.int .u64 n] w fun e w' => ∃ g, e = .returned (.slice (some ⟨g, 0, none⟩) (len256 n) (len256 n)) ∧
      w'.ownsRow w.heap.size 5 1 (.slice (some ⟨g, 0, none⟩) (len256 n) (len256 n)) (len256 n) (bs (dig n)) ∧ Below w.heap.size w w' := by
  obtain ⟨i0, hi, hz0, hz1, hz2⟩ := info_parts info5
  have hbl : Lib.bitLen n ≤ 64 := Lib.bitLen_le n 64 (by omega) (by simpa using hn)
  have hk8 := len256_le n hn
  obtain ⟨k, hk⟩ : ∃ k, k = len256 n := ⟨_, rfl⟩
  have hk2 : k = (Lib.bitLen n + 7) / 8 := hk
  unfold dig
  rw [← hk] at hk8 ⊢
  have hk3 : ((Lib.bitLen n : Int) + 7) / 8 = (k : Int) := by omega
  have HK := Lib.hid hk
  clear hk hk2
  go_enter Try.func28, Try.ntmps28
  go_wp2_with (first
    | (go_at_call 33; refine ((Try.bits_Len64 _ _ (by omega) (by omega)).mono (fun e w' h => And.intro h.1 h.2.symm)).mono ?_; rw [Int.toNat_natCast]; rintro e w' ⟨rfl, rfl⟩)
    | (at_make; refine wpList_make_full _ rfl (.tmp 10) (.tmp 10) 23 rfl w.heap.size 5 i0 (.int .u8 0) 1 Try.underlying23 hi hz0 hz1 .i64 .i64 _ _ k rfl rfl hk3 hk3 (by rw [hz2]; omega) (by unfold maxLen; omega) (Nat.le_refl _) ?_; intro w1 hown hgrow; rw [hk3]))
  clear hk3
  have hB1 : Below w.heap.size w w1 := (Below.refl _ _).grown hgrow (Nat.le_refl _) (fun k hk => by cases hk)
  simp only [Nat.mul_one, Value.cells] at hown
  rw [toList_madeCells_one, wrL_zero' k n] at hown
  clear hgrow
  have Hown := Lib.hid hown
  clear hown
  go_wp2
  go_loopw [13] (fun i wr => ∃ j : Nat, j ≤ k ∧ i = .int .i64 j ∧ Hid (wr.ownsRow w.heap.size 5 1 (.slice (some ⟨w.heap.size, 0, none⟩) k k) k (bs (wrL k n j))) ∧ Below w.heap.size w wr) (fun i _ => k - (intOf i).toNat)
  case atStart => exact ⟨0, Nat.zero_le _, rfl, Hown, hB1⟩
  case round =>
    obtain ⟨j, hj, rfl, hown, hB⟩ := hrel
    by_cases hlt : j < k
    · have hf : wr.frozen? ⟨w.heap.size, k - 1 - j, none⟩ = false := hown.out.frozenAt _
      obtain ⟨x, hx⟩ : ∃ x, wr.cell? ⟨w.heap.size, k - 1 - j, none⟩ = some (.int .u8 x) := by
        rw [hown.out.cellAt _ (by omega)]
        refine ⟨(wrL k n j).getD (k - 1 - j) 0, ?_⟩
        simp [bs, List.getD_eq_getElem?_getD, wrL_length k n j hj, (by omega : k - 1 - j < k)]
      go_wp2
      go_roundw
      case rel => exact ⟨j + 1, by omega, by go_num, by rw [byte_at]; exact Lib.hid ((wrL_set k n j hlt) ▸ (hown.out.stored _ _).1), hB.setCell (Nat.le_refl _) _⟩
      case measure => simp [intOf]; omega
    · obtain rfl : j = k := by omega
      go_wp2
      go_ret
      exact ⟨_, rfl, by rw [← wrL_all]; exact hown.out, hB⟩
end Go.Proofs.Ytnjapbfnodfgpaa.Rk
