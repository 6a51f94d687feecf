/- The walks of bytes.Count at one byte, and of write. -/
import Derived.Test.YtnjapbfnodfgpaaW2
import Derived.Test.YtnjapbfnodfgpaaBits
namespace Go.Proofs.Ytnjapbfnodfgpaa.Rk
open Go Go.RowKit
theorem count_some (a : Addr) (n c b2 o2 d : Nat) (xs : List Int) (cv : Int) (w : World) (hx : xs.length = n) (hc : ∀ i, i < n → w.cell? (a.add i) = some (.int .u8 (xs.getD i 0))) (hc2 : w.cell? ⟨b2, o2, none⟩ = some (.int .u8 cv)) :
    Calls Try.prog 30 #[.slice (some a) n c, .slice (some ⟨b2, o2, none⟩) 1 d] w fun e w' => e = .returned (.int .i64 (Lib.countByte (Lib.bytesOf xs) cv.toNat.toUInt8)) ∧ w' = w := Any.bytes_Count_one_at Try.lays13 a n c b2 o2 d xs cv w hx hc hc2
set_option maxHeartbeats 2000000 in
set_option maxRecDepth 1000000 in
theorem count_none (b2 o2 d l c : Nat) (cv : Int) (w : World) (hc2 : w.cell? ⟨b2, o2, none⟩ = some (.int .u8 cv)) :
    Calls Try.prog 30 #[.slice none l c, .slice (some ⟨b2, o2, none⟩) 1 d] w fun e w' => e = .returned (.int .i64 0) ∧ w' = w := by
  go_enter Try.func30, Try.ntmps30
  go_wp2
  rw [run_callFunc_extern Try.func35 (by kernel_rfl) (by kernel_rfl) (by kernel_rfl) (e := Extern.BytealgCount.count) (by kernel_rfl), Lib.run_countNil w l c cv]
  simp only [Result.andThen]
  rw [Oper.upon_value]
  go_wp2
  go_ret
  exact ⟨rfl, rfl⟩
/-- bytes.Count of one byte: some number, at most as many as there are. -/
theorem count_any (ao : Option Addr) (xs : List Int) (c b2 o2 d : Nat) (cv : Int) (w : World) (ha : Rd w ao xs) (hc2 : w.cell? ⟨b2, o2, none⟩ = some (.int .u8 cv)) :
    Calls Try.prog 30 #[.slice ao xs.length c, .slice (some ⟨b2, o2, none⟩) 1 d] w fun e w' => ∃ k : Nat, k ≤ xs.length ∧ e = .returned (.int .i64 k) ∧ w' = w := by
  cases ao with
  | none => exact (count_none b2 o2 d _ c cv w hc2).mono fun e w' h => ⟨0, Nat.zero_le _, h.1, h.2⟩
  | some a =>
    refine (count_some a _ c b2 o2 d xs cv w rfl (fun i hi => ?_) hc2).mono fun e w' h => ⟨_, ?_, h.1, h.2⟩
    · obtain ⟨a', h1, _, h3⟩ := ha i hi
      cases h1
      exact h3
    · unfold Lib.countByte
      refine Nat.le_trans List.count_le_length ?_
      simp [Lib.bytesOf]
theorem info5 : (Try.prog.info? 5).map (fun i => (i.zero, i.size, i.bytes)) = some (some (.int .u8 0), 1, 1) := by kernel_rfl
end Go.Proofs.Ytnjapbfnodfgpaa.Rk
