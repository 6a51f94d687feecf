/- fault's law: two rows of the same links are the same. -/
import Derived.Test.YtkhnjgadagkpjaaDoorF7
namespace Go.Proofs.YtkhnjgadagkpjaaDoor.Flt
open Go Go.RowKit Go.Stop
set_option maxHeartbeats 1000000 in
theorem same_links (b1 c1 b2 off c2 N : Nat) (X : Nat → Int × Int) (w : World) (hN : N ≤ maxLen)
    (h1 : ∀ i, i < N → w.cell? ⟨b1, i * 2, none⟩ = some (.int .i64 (X i).1) ∧ w.cell? ⟨b1, i * 2 + 1, none⟩ = some (.int .u32 (X i).2))
    (h2 : ∀ i, i < N → w.cell? ⟨b2, off + i * 2, none⟩ = some (.int .i64 (X i).1) ∧ w.cell? ⟨b2, off + i * 2 + 1, none⟩ = some (.int .u32 (X i).2)) :
    Calls Tryd.prog 12 #[.slice (some ⟨b1, 0, none⟩) N c1, .slice (some ⟨b2, off, none⟩) N c2] w fun e w' => e = .returned (.bool true) ∧ Below w.heap.size w w' := by
  have H1 := Lib.hid h1
  have H2 := Lib.hid h2
  unfold maxLen at hN
  clear h1 h2
  go_enter Tryd.func12, Tryd.ntmps12
  go_wp2_with fail
  go_loopw [13] (fun i wr => ∃ j : Nat, j ≤ N ∧ i = .int .i64 j ∧ Below w.heap.size w wr ∧ ∀ a, wr.cell? a = w.cell? a) (fun i _ => N - (intOf i).toNat)
  case atStart => exact ⟨0, Nat.zero_le _, rfl, Below.refl _ _, fun _ => rfl⟩
  case round =>
    obtain ⟨j, hj, rfl, hB, hcell⟩ := hrel
    by_cases hlt : j < N
    · obtain ⟨x0, x1⟩ := H1.out j hlt
      obtain ⟨y0, y1⟩ := H2.out j hlt
      rw [← hcell] at x0 x1 y0 y1
      generalize X j = t at *
      have HB := Lib.hid hB
      have HC := Lib.hid hcell
      clear hB hcell
      go_wp2_with fail
      all_goals go_region
      all_goals go_wp2_with fail
      go_roundw
      case rel => exact ⟨j + 1, by omega, by first | (simp; done) | rfl | go_num, HB.out.drew, fun a => HC.out a⟩
      case measure => simp [intOf]; omega
    · obtain rfl : j = N := by omega
      go_wp2_with fail
      go_ret
      exact ⟨rfl, hB⟩
end Go.Proofs.YtkhnjgadagkpjaaDoor.Flt
