/- fault: Links of nil. -/
import Derived.Test.YtkhnjgadagkpjaaDoorF5
namespace Go.Proofs.YtkhnjgadagkpjaaDoor.Flt
open Go Go.RowKit Go.Stop
theorem nil48 (w : World) : (Instr.typeAssert .nilIface 27 48 true).run Tryd.prog w = .ok (.tuple #[.pointer none, .bool false]) w := by kernel_rfl
theorem nil76 (w : World) : (Instr.typeAssert .nilIface 27 76 true).run Tryd.prog w = .ok (.tuple #[.pointer none, .bool false]) w := by kernel_rfl
theorem nil88 (xT : TypeId) (w : World) : (Instr.typeAssert .nilIface xT 88 true).run Tryd.prog w = .ok (.tuple #[.nilIface, .bool false]) w := by kernel_rfl
theorem nil91 (xT : TypeId) (w : World) : (Instr.typeAssert .nilIface xT 91 true).run Tryd.prog w = .ok (.tuple #[.nilIface, .bool false]) w := by kernel_rfl
set_option maxHeartbeats 1000000 in
theorem unwrap_nil (w : World) :
    Calls Tryd.prog 32 #[.nilIface] w fun e w' => e = .returned (.tuple #[.slice none 0 0, .bool false]) ∧ Below w.heap.size w w' := by
  have hmf : ∀ (fn : Fn) (first cap : Array Value) (w : World), (Instr.makeFunc fn first cap).run Tryd.prog w = .ok (.func fn first cap) w := fun _ _ _ _ => rfl
  have n1 := nil88
  have n2 := nil91
  go_enter_defers Tryd.func32, Tryd.ntmps32
  go_wp2_with fail
  refine leaves_cons (f := 46) (args := #[.pointer (some ⟨w.heap.size, 0, none⟩), .pointer (some ⟨w.heap.size + 1, 0, none⟩)]) (by simp) (by simp [go_sem]) ?_
  refine (idle46 ⟨w.heap.size, 0, none⟩ ⟨w.heap.size + 1, 0, none⟩ _).mono ?_
  rintro e u' w'' ⟨rfl, rfl, rfl⟩
  simp [Leaves, settle, results, Tryd.results32, go_sem]
  go_grown
set_option maxRecDepth 100000 in
set_option maxHeartbeats 1000000 in
theorem own_nil (f : Value) (w : World) : Calls Tryd.prog 31 #[.nilIface, f] w fun e w' => e = .returned .nilIface ∧ w = w' := by
  have a1 := nil48
  have a3 := nil76
  go_enter Tryd.func31, Tryd.ntmps31
  go_wp2_with fail
  refine wp_loop_rounds 1 ?_
  rw [rounds_succ]
  go_wp2_with fail
  go_ret
  exact ⟨rfl, rfl⟩
set_option maxHeartbeats 400000 in
theorem descend_nil (f : Value) (w : World) : Calls Tryd.prog 18 #[.nilIface, f] w fun e w' => e = .returned .nilIface ∧ Below w.heap.size w w' := by
  go_enter Tryd.func18, Tryd.ntmps18
  go_wp2
  refine wp_loop_rounds 1 ?_
  rw [rounds_succ]
  go_wp2_with fail
  refine (own_nil _ _).mono ?_
  rintro e w1 ⟨rfl, rfl⟩
  go_wp2_with fail
  refine (unwrap_nil _).mono ?_
  rintro e w2 ⟨rfl, hb⟩
  go_wp2_with fail
  go_ret
  exact ⟨rfl, hb⟩
set_option maxHeartbeats 400000 in
theorem links_nil (w : World) :
    Calls Tryd.prog 10 #[.nilIface] w fun e w' => e = .returned (.slice none 0 0) ∧ Below w.heap.size w w' := by
  have hB := (Below.refl w.heap.size w).alloc (Nat.le_refl _) (.cells #[.slice none 0 0] 33)
  have hc := (Boxed.new w 33 (.slice none 0 0))
  go_enter Tryd.func10, Tryd.ntmps10
  go_wp2_with fail
  refine (descend_nil _ _).mono ?_
  rintro e w1 ⟨rfl, hb⟩
  have hc1 := (hb.cell (p := ⟨w.heap.size, 0, none⟩) (by simp)).trans hc.cell
  have HB := Lib.hid (hB.trans (hb.mono (by simp)))
  clear hb hB hc
  go_wp2_with fail
  go_ret
  exact ⟨rfl, HB.out⟩
end Go.Proofs.YtkhnjgadagkpjaaDoor.Flt
