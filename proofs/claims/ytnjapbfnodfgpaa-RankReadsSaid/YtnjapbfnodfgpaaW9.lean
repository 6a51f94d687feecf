/- The walks of Text of nothing, and of read. -/
import Derived.Test.YtnjapbfnodfgpaaW8
import Derived.Laws.BitsAllLaws
namespace Go.Proofs.Ytnjapbfnodfgpaa.Rk
open Go Go.RowKit
set_option maxHeartbeats 1000000 in
theorem text_none (ao : Option Addr) (c : Nat) (w : World) :
    Calls Try.prog 13 #[.slice ao 0 c] w fun e w' => ∃ v, e = .returned v ∧ Own w' w.heap.size v (textC []) ∧ Below w.heap.size w w' := by
  obtain ⟨i0, hi, hz0, hz1, hz2⟩ := info_parts info5
  have hC := count_any ao [] c w.heap.size 0 1 0 (w.alloc (.cells #[.int .u8 0] 5)) (Rd.nil _ _) (by simp)
  have HC := Lib.hid hC
  clear hC
  go_enter Try.func13, Try.ntmps13
  go_wp2_with fail
  refine HC.out.mono ?_
  clear HC
  rintro e w1 ⟨k, hk, rfl, hw⟩
  obtain rfl : k = 0 := by simpa using hk
  have Hw := Lib.hid hw
  clear hw hk
  go_wp2_with (at_make; refine wpList_make_own _ rfl (.const (.int .i64 0)) (.tmp 12) 23 rfl w.heap.size 5 i0 (.int .u8 0) 1 Try.underlying23 hi hz0 hz1 .i64 .i64 _ 2 rfl rfl rfl (by rw [hz2]; omega) (by unfold maxLen; omega) (by rw [Hw.out]; simp) ?_; intro w2 hown hgrow)
  have hB1 : Below w.heap.size w w1 := by rw [Hw.out]; exact (Below.refl _ _).alloc (Nat.le_refl _) _
  have hB2 : Below w.heap.size w w2 := hB1.grown hgrow hB1.size (fun k hk => by cases hk)
  have Hown : Hid (Own w2 w.heap.size (.slice (some ⟨w1.heap.size, 0, none⟩) 0 2) []) := hown
  clear hgrow hown hB1
  generalize w1.heap.size = G at *
  have hBs := hB2.size
  refine wp_loop_rounds 1 ?_
  rw [rounds_succ]
  go_wp2_with (at_builtin; refine wpList_append_own _ rfl (.tmp 30) (.tmp 31) 23 rfl w.heap.size 5 i0 _ 1 1 Try.underlying23 hi hz0 hz1 hz2 rfl (by decide) _ 0 (bs []) rfl (World.ownsRow.alloc Hown.out _) ⟨w2.heap.size, 0, none⟩ 2 2 (bs [0, 0]) rfl rfl (two_cells w2 0 0) (bs_one [0, 0]) (by unfold maxLen; omega) (by omega) (by simp; omega) ?_; intro v3 w3 hown3 hgrow3 _)
  have hB3 : Below w.heap.size w w3 := (hB2.alloc hB2.size _).grown hgrow3 (by simp; omega) (fun k hk => (World.ownsRow.lt Hown.out k hk).1)
  have hOwn3 : Hid (Own w3 w.heap.size v3 (textC [])) := Own.put (l := []) (m := [0, 0]) hown3 rfl rfl
  clear hgrow3 hown3
  go_ret
  exact ⟨v3, rfl, hOwn3.out, hB3⟩
/-- Text: the code of bytes. -/
theorem text_any (ao : Option Addr) (n c : Nat) (l : List Int) (w : World) (hn : n ≤ 1099511627776) (hl : l.length = n) (ha : Rd w ao l) :
    Calls Try.prog 13 #[.slice ao n c] w fun e w' => ∃ v, e = .returned v ∧ Own w' w.heap.size v (textC l) ∧ Below w.heap.size w w' := by
  subst hl
  by_cases h : l = []
  · subst h
    exact text_none ao c w
  · obtain ⟨a, rfl, h1, h2⟩ := ha.here h
    exact text_some a _ c l w hn rfl h1 h2
/-- The number that bytes tell, the highest first. -/
def val (l : List Int) : Int := l.foldl (fun n b => n * 256 + b) 0
theorem val_snoc (l : List Int) (x : Int) : val (l ++ [x]) = val l * 256 + x := by unfold val; rw [List.foldl_append]; rfl
theorem getD_mem {l : List Int} {j : Nat} (h : j < l.length) : l.getD j 0 ∈ l := by
  rw [List.getD_eq_getElem?_getD, List.getElem?_eq_getElem h]
  exact List.getElem_mem _
theorem val_take {l : List Int} {j : Nat} (h : j < l.length) : val (l.take (j + 1)) = val (l.take j) * 256 + l.getD j 0 := by
  rw [List.take_succ_eq_append_getElem h, val_snoc, List.getD_eq_getElem?_getD, List.getElem?_eq_getElem h]
  rfl
theorem val_bound (l : List Int) (h : ∀ x ∈ l, 0 ≤ x ∧ x ≤ 255) : ∀ j, j ≤ l.length → 0 ≤ val (l.take j) ∧ val (l.take j) < 256 ^ j
  | 0, _ => by simp [val]
  | j + 1, hj => by
    have h1 := val_bound l h j (by omega)
    have h2 := h _ (getD_mem (by omega : j < l.length))
    rw [val_take (by omega), Int.pow_succ]
    omega
theorem or_byte (n b : Int) (h0 : 0 ≤ n) (h1 : n < 72057594037927936) (b0 : 0 ≤ b) (b1 : b ≤ 255) : bits .or .u64 (n * 256) b = n * 256 + b := by
  obtain ⟨N, rfl⟩ : ∃ N : Nat, n = N := ⟨n.toNat, by omega⟩
  obtain ⟨B, rfl⟩ : ∃ B : Nat, b = B := ⟨b.toNat, by omega⟩
  have := u64_or_nat (N * 256) B (by omega) (by omega)
  rw [Int.natCast_mul] at this
  rw [show ((N : Int) * 256) = (N : Int) * ((256 : Nat) : Int) from rfl, this, ← Nat.mul_comm 256, ← Nat.two_pow_add_eq_or_of_lt (i := 8) (by omega)]
  omega
end Go.Proofs.Ytnjapbfnodfgpaa.Rk
