/- The sort of numbers: patterns are broken, walked. -/
import Derived.Test.YtgjjfodogkcmmaaS4
import Derived.Test.YtgjjfodogkcmmaaShelf
import Derived.Shelf.SlSortCmp.Xorshift
namespace Go.Proofs.Ytgjjfodogkcmmaa.So
open Go Go.RowKit Go.Sort
/-- A number drawn on, in a block of its own. -/
def Rnd (w : World) (p : Nat) : Prop := ∃ X : Nat, X < 18446744073709551616 ∧ w.heap[p]? = some (.cells #[.int .u64 X] 137 (0, 0))
theorem next_any (p : Nat) (w : World) (h : Rnd w p) : Calls Try.prog 78 #[.pointer (some ⟨p, 0, none⟩)] w fun e w' => ∃ R : Nat, e = .returned (.int .u64 R) ∧ R < 18446744073709551616 ∧ Rnd w' p ∧ Turned (fun k => k = p) w w' := by
  obtain ⟨X, hX, hb⟩ := h
  have hc : w.cell? ⟨p, 0, none⟩ = some (.int .u64 X) := by simp [World.cell?, hb]
  have hf : w.frozen? ⟨p, 0, none⟩ = false := by simp [World.frozen?, hb]
  have hcon := AnyF.xorshift_Next Try.xor48 p 0 X hX w hc hf
  refine Calls.mono hcon ?_
  rintro e w' ⟨rfl, rfl⟩
  refine ⟨_, rfl, xorNextN_lt X hX, ⟨_, xorNextN_lt X hX, ?_⟩, (turned_set _ _ _ _).then (turned_drewN _ _ _)⟩
  have := heap_setCell_same w p 0 #[.int .u64 X] 137 (.int .u64 (xorNextN X : Nat)) hb
  simpa using this
theorem npt_any (L : Nat) (hL : 1 ≤ L) (hn : L < 4611686018427387904) (w : World) : Calls Try.prog 77 #[.int .i64 L] w fun e w' => (∃ M : Nat, e = .returned (.int .u64 M) ∧ 1 ≤ M ∧ M ≤ 2 * L) ∧ w' = w := by
  refine Calls.mono (AnyF.nextPowerOfTwo Try.npt47 L hn w) ?_
  rintro e w' ⟨rfl, rfl⟩
  exact ⟨⟨_, rfl, by rw [Nat.one_shiftLeft]; exact Nat.two_pow_pos _, by rw [Nat.one_shiftLeft]; exact two_pow_bitsLen_le hL⟩, rfl⟩
end Go.Proofs.Ytgjjfodogkcmmaa.So
