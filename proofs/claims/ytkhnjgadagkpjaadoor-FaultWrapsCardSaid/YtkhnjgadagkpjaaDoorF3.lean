/- fault: Wrap and New; errors.Is of an Errno. -/
import Derived.Test.YtkhnjgadagkpjaaDoorF2
namespace Go.Proofs.YtkhnjgadagkpjaaDoor.Flt
open Go Go.RowKit Go.Stop Go.Extern.Stop Go.Extern
set_option maxHeartbeats 400000 in
theorem wrap_any (t : TypeId) (x : Value) (op v : Int) (w : World) :
    Calls Tryd.prog 15 #[.iface t x, .int .i64 op, .int .u32 v] w fun e w' => e = .returned (.iface 48 (.pointer (some ⟨w.heap.size, 0, none⟩))) ∧ w' = w.alloc (.cells #[.int .i64 op, .int .u32 v, .iface t x] 55) := by
  go_enter Tryd.func15, Tryd.ntmps15
  go_wp2_with fail
  go_ret
  exact ⟨rfl, rfl⟩
set_option maxHeartbeats 400000 in
theorem wrap_nil (op v : Int) (w : World) :
    Calls Tryd.prog 15 #[.nilIface, .int .i64 op, .int .u32 v] w fun e w' => e = .returned .nilIface ∧ w' = w := by
  go_enter Tryd.func15, Tryd.ntmps15
  go_wp2_with fail
  go_ret
  exact ⟨rfl, rfl⟩
set_option maxHeartbeats 400000 in
theorem new_ok (c op v : Int) (w : World) (hc : (c == 0) = false) :
    Calls Tryd.prog 16 #[.int .i64 c, .int .i64 op, .int .u32 v] w fun e w' => e = .returned (.iface 48 (.pointer (some ⟨w.heap.size, 0, none⟩))) ∧ w' = w.alloc (.cells #[.int .i64 op, .int .u32 v, .iface 30 (.int .i64 c)] 55) := by
  go_enter Tryd.func16, Tryd.ntmps16
  go_wp2_with fail
  refine (wrap_any _ _ _ _ _).mono ?_
  rintro e w1 ⟨rfl, rfl⟩
  go_wp2_with fail
  go_ret
  exact ⟨rfl, rfl⟩
set_option maxHeartbeats 400000 in
theorem new_nil (op v : Int) (w : World) :
    Calls Tryd.prog 16 #[.int .i64 0, .int .i64 op, .int .u32 v] w fun e w' => e = .returned .nilIface ∧ w' = w := by
  go_enter Tryd.func16, Tryd.ntmps16
  go_wp2_with fail
  go_ret
  exact ⟨rfl, rfl⟩
theorem isTypeOf (v : Value) (w : World) : (Extern.ReflectliteType.typeOf #[.iface 30 v]).run Tryd.prog w = .ok (.iface 116 (.agg #[.pointer (some ⟨4, 30, none⟩)])) w := by kernel_rfl
def entry95 : Array Value → Sem Value := Extern.ReflectliteType.method fun t => do Extern.Rtype.noPackHeld "Comparable" t; pure (.bool (← typeInfo t).comparable)
theorem isComparable (w : World) : (entry95 #[.agg #[.pointer (some ⟨4, 30, none⟩)]]).run Tryd.prog w = .ok (.bool true) w := by kernel_rfl
theorem eqErr (a c : Int) (w : World) : (binOp .eql 27 (.iface 30 (.int .i64 a)) (.iface 30 (.int .i64 c))).run Tryd.prog w = .ok (.bool (a == c)) w := by kernel_rfl
theorem isMethodComparable (v : Value) (w : World) : (Go.method 262 116 v "Comparable").run Tryd.prog w = .ok (95, v) w := by kernel_rfl
theorem isComp : (Tryd.prog.info? 30).map (·.comparable) = some true := by kernel_rfl
theorem noIs (v : Value) (xT : TypeId) (w : World) : (Instr.typeAssert (.iface 30 v) xT 118 true).run Tryd.prog w = .ok (.tuple #[.nilIface, .bool false]) w := run_typeAssert_lacksB Tryd.underlying118 (by kernel_rfl) (by kernel_rfl) v xT w
theorem noU87 (v : Value) (xT : TypeId) (w : World) : (Instr.typeAssert (.iface 30 v) xT 87 true).run Tryd.prog w = .ok (.tuple #[.nilIface, .bool false]) w := run_typeAssert_lacksB Tryd.underlying87 (by kernel_rfl) (by kernel_rfl) v xT w
theorem noU90 (v : Value) (xT : TypeId) (w : World) : (Instr.typeAssert (.iface 30 v) xT 90 true).run Tryd.prog w = .ok (.tuple #[.nilIface, .bool false]) w := run_typeAssert_lacksB Tryd.underlying90 (by kernel_rfl) (by kernel_rfl) v xT w
set_option maxRecDepth 100000 in
set_option maxHeartbeats 1000000 in
theorem is_errno (a c : Int) (w : World) :
    Calls Tryd.prog 39 #[.iface 30 (.int .i64 a), .iface 30 (.int .i64 c)] w fun e w' => e = .returned (.bool (a == c)) ∧ w = w' := by
  have h8 := @run_callFunc_extern Tryd.prog 47 _ Extern.ReflectliteType.typeOf Tryd.func47 (by kernel_rfl) (by kernel_rfl) (by kernel_rfl) (by kernel_rfl)
  have h32 := @run_callFunc_extern Tryd.prog 95 _ entry95 Tryd.func95 (by kernel_rfl) (by kernel_rfl) (by kernel_rfl) (by kernel_rfl)
  have tT := isTypeOf
  have cT := isComparable
  have mR := isMethodComparable
  have n1 := noIs
  have eE := eqErr
  have n2 := noU87
  have n3 := noU90
  cases hac : (a == c)
  all_goals
    go_enter Tryd.func39, Tryd.ntmps39
    go_wp2
    refine wp_loop_rounds 1 ?_
    rw [rounds_succ]
    go_wp2
    go_ret
    exact ⟨rfl, rfl⟩
end Go.Proofs.YtkhnjgadagkpjaaDoor.Flt
