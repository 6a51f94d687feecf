/- The walk of ValueSorts, of a list that has nothing. -/
import Derived.Test.YthmnkbldgpdejaaDoorW18
namespace Go.Proofs.YthmnkbldgpdejaaDoor.Val
open Go Go.RowKit
set_option maxHeartbeats 400000 in
theorem sorts_nil (a : Option Addr) (c : Nat) (w : World) (htab : Pow w) :
    Calls Tryd.prog 7 #[.slice a 0 c] w fun e w' => e = .returned (.bool true) ∧ Below w.heap.size w w' := by
  go_enter Tryd.func7, Tryd.ntmps7
  go_wp2_with fail
  refine (awake_any _ htab).mono ?_
  rintro e w1 ⟨rfl, hB1⟩
  go_wp2_with fail
  refine wp_loop_rounds 1 ?_
  rw [rounds_succ]
  go_wp2
  refine wp_loop_rounds 1 ?_
  rw [rounds_succ]
  go_wp2
  refine wp_loop_rounds 1 ?_
  rw [rounds_succ]
  go_wp2
  go_ret
  exact ⟨rfl, hB1⟩
end Go.Proofs.YthmnkbldgpdejaaDoor.Val
