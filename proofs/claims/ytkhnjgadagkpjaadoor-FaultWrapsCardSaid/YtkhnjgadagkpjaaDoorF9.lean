/- fault: isCode of a number. -/
import Derived.Test.YtkhnjgadagkpjaaDoorF8
namespace Go.Proofs.YtkhnjgadagkpjaaDoor.Flt
open Go Go.RowKit Go.Stop
set_option maxHeartbeats 1000000 in
theorem isCode_errno (a c : Int) (w : World) :
    Calls Tryd.prog 21 #[.iface 30 (.int .i64 a), .int .i64 c] w fun e w' => e = .returned (.bool (a == c)) ∧ Below w.heap.size w w' := by
  have hmf : ∀ (fn : Fn) (first cap : Array Value) (w : World), (Instr.makeFunc fn first cap).run Tryd.prog w = .ok (.func fn first cap) w := fun _ _ _ _ => rfl
  go_enter_defers Tryd.func21, Tryd.ntmps21
  go_wp2_with fail
  refine (is_errno a c _).mono ?_
  rintro e w1 ⟨rfl, rfl⟩
  go_wp2_with fail
  refine leaves_cons (f := 38) (args := #[.pointer (some ⟨w.heap.size, 0, none⟩)]) (by simp) (by simp [go_sem]) ?_
  refine (idle38 ⟨w.heap.size, 0, none⟩ _).mono ?_
  rintro e u' w'' ⟨rfl, rfl, rfl⟩
  simp [Leaves, settle, results, Tryd.results21, go_sem]
  go_grown
end Go.Proofs.YtkhnjgadagkpjaaDoor.Flt
