/- fault: chains in memory; the walk down to the root, where nothing is told on the way. -/
import Derived.Test.YtkhnjgadagkpjaaDoorF1
import Derived.Deep.LoopGhost
import Derived.Lib.Hide
namespace Go.Proofs.YtkhnjgadagkpjaaDoor.Flt
open Go Go.RowKit Go.Stop
theorem noSingle (v : Value) (xT : TypeId) (w : World) : (Instr.typeAssert (.iface 30 v) xT 88 true).run Tryd.prog w = .ok (.tuple #[.nilIface, .bool false]) w := run_typeAssert_lacksB Tryd.underlying88 (by kernel_rfl) (by kernel_rfl) v xT w
theorem noSeveral (v : Value) (xT : TypeId) (w : World) : (Instr.typeAssert (.iface 30 v) xT 91 true).run Tryd.prog w = .ok (.tuple #[.nilIface, .bool false]) w := run_typeAssert_lacksB Tryd.underlying91 (by kernel_rfl) (by kernel_rfl) v xT w
theorem is48 (v : Value) (w : World) : (Instr.typeAssert (.iface 48 v) 27 48 true).run Tryd.prog w = .ok (.tuple #[v, .bool true]) w := by kernel_rfl
theorem no48 (v : Value) (w : World) : (Instr.typeAssert (.iface 30 v) 27 48 true).run Tryd.prog w = .ok (.tuple #[.pointer none, .bool false]) w := by kernel_rfl
theorem no76 (v : Value) (w : World) : (Instr.typeAssert (.iface 30 v) 27 76 true).run Tryd.prog w = .ok (.tuple #[.pointer none, .bool false]) w := by kernel_rfl
set_option maxHeartbeats 1000000 in
theorem unwrap_errno (n : Int) (w : World) :
    Calls Tryd.prog 32 #[.iface 30 (.int .i64 n)] w fun e w' => e = .returned (.tuple #[.slice none 0 0, .bool false]) ∧ Below w.heap.size w w' := by
  have hmf : ∀ (fn : Fn) (first cap : Array Value) (w : World), (Instr.makeFunc fn first cap).run Tryd.prog w = .ok (.func fn first cap) w := fun _ _ _ _ => rfl
  have n1 := noSingle
  have n2 := noSeveral
  go_enter_defers Tryd.func32, Tryd.ntmps32
  go_wp2_with fail
  refine leaves_cons (f := 46) (args := #[.pointer (some ⟨w.heap.size, 0, none⟩), .pointer (some ⟨w.heap.size + 1, 0, none⟩)]) (by simp) (by simp [go_sem]) ?_
  refine (idle46 ⟨w.heap.size, 0, none⟩ ⟨w.heap.size + 1, 0, none⟩ _).mono ?_
  rintro e u' w'' ⟨rfl, rfl, rfl⟩
  simp [Leaves, settle, results, Tryd.results32, go_sem]
  go_grown
set_option maxHeartbeats 400000 in
theorem numberOf_errno (n : Int) (w : World) (hg : ErrT w) :
    Calls Tryd.prog 17 #[.iface 30 (.int .i64 n)] w fun e w' => e = .returned (.int .i64 n) ∧ Below w.heap.size w w' := by
  go_enter Tryd.func17, Tryd.ntmps17
  go_wp2_with fail
  refine (codeOf_errno n _ hg).mono ?_
  rintro e w1 ⟨rfl, hb⟩
  go_wp2_with fail
  go_ret
  exact ⟨rfl, hb⟩
/-- A chain in memory: its links, the outermost first, about its root. -/
def Chain (w : World) : Value → List (Int × Int) → Int → Prop
  | v, [], r => v = .iface 30 (.int .i64 r)
  | v, l :: L, r => ∃ (p : Nat) (u : Value), v = .iface 48 (.pointer (some ⟨p, 0, none⟩)) ∧ w.heap[p]? = some (.cells #[.int .i64 l.1, .int .u32 l.2, u] 55 (0, 0)) ∧ Chain w u L r
theorem Chain.on {w w1 : World} {B : Nat} (hb : Below B w w1) : ∀ {v : Value} {L : List (Int × Int)} {r : Int}, w.heap.size ≤ B → Chain w v L r → Chain w1 v L r
  | v, [], r, _, h => h
  | v, l :: L, r, hB, ⟨p, u, e, hp, h⟩ => by
    have hlt : p < w.heap.size := by
      rcases Nat.lt_or_ge p w.heap.size with h1 | h1
      · exact h1
      · rw [Array.getElem?_eq_none h1] at hp; cases hp
    exact ⟨p, u, e, (hb.block p (by omega)).trans hp, Chain.on hb hB h⟩
theorem cells3 {w : World} {p : Nat} {a b u : Value} (h : w.heap[p]? = some (.cells #[a, b, u] 55 (0, 0))) : w.cell? ⟨p, 0, none⟩ = some a ∧ w.cell? ⟨p, 1, none⟩ = some b ∧ w.cell? ⟨p, 2, none⟩ = some u := by
  refine ⟨?_, ?_, ?_⟩ <;> simp [World.cell?, h]
def DownPost (r : Int) (w : World) (e : Ending) (w' : World) : Prop := e = .returned (.iface 30 (.int .i64 r)) ∧ w = w'
set_option maxHeartbeats 400000 in
theorem tell_not (p : Addr) (w : World) : Calls Tryd.prog 19 #[.pointer (some p)] w fun e w' => e = .returned (.tuple #[]) ∧ w = w' := by
  go_enter Tryd.func19, Tryd.ntmps19
  go_wp2_with fail
  go_end0
  exact ⟨rfl, rfl⟩
set_option maxRecDepth 100000 in
set_option maxHeartbeats 1000000 in
theorem own_quiet (v : Value) (L : List (Int × Int)) (r : Int) (w : World) (h : Chain w v L r) :
    Calls Tryd.prog 31 #[v, .func (.func 19) #[] #[]] w fun e w' => e = .returned (.iface 30 (.int .i64 r)) ∧ w = w' := by
  have H := Lib.hid h
  clear h
  have a1 := is48
  have a2 := no48
  have a3 := no76
  go_enter Tryd.func31, Tryd.ntmps31
  go_wp2_with fail
  go_loopg [0] L.length (fun k u wr => w = wr ∧ ∃ M : List (Int × Int), M.length = k ∧ Hid (Chain w u M r))
  case atStart => exact ⟨rfl, L, rfl, H⟩
  case round =>
    obtain ⟨rfl, M, hM, HC⟩ := hrel
    have HM := Lib.hid hM
    clear hM H
    have hc := HC.out
    clear HC
    cases M with
    | nil =>
      obtain rfl := hc
      go_wp2_with fail
      go_ret
      exact ⟨rfl, rfl⟩
    | cons l M =>
      obtain ⟨p, u, rfl, hp, hc⟩ := hc
      obtain ⟨c0, c1, c2⟩ := cells3 hp
      have HC := Lib.hid hc
      clear hc hp
      go_wp2_with fail
      refine (tell_not _ _).mono ?_
      rintro e w1 ⟨rfl, rfl⟩
      go_wp2_with fail
      go_roundg M.length
      case measure => have := HM.out; simp at this; omega
      case rel => exact ⟨rfl, M, rfl, HC⟩
def DescPost (r : Int) (R : World → Prop) (e : Ending) (w' : World) : Prop := e = .returned (.iface 30 (.int .i64 r)) ∧ ∃ w1, R w1 ∧ Below w1.heap.size w1 w'
set_option maxHeartbeats 400000 in
theorem descend_of (v f : Value) (r : Int) (w : World) (R : World → Prop) (h : Calls Tryd.prog 31 #[v, f] w fun e w' => e = .returned (.iface 30 (.int .i64 r)) ∧ R w') :
    Calls Tryd.prog 18 #[v, f] w (DescPost r R) := by
  have H := Lib.hid h
  clear h
  go_enter Tryd.func18, Tryd.ntmps18
  go_wp2
  refine wp_loop_rounds 1 ?_
  rw [rounds_succ]
  go_wp2_with fail
  refine H.out.mono ?_
  rintro e w1 ⟨rfl, hR⟩
  have HR := Lib.hid hR
  clear hR
  go_wp2_with fail
  refine (unwrap_errno _ _).mono ?_
  rintro e w2 ⟨rfl, hb⟩
  go_wp2_with fail
  go_ret
  exact ⟨rfl, w1, HR.out, hb⟩
set_option maxHeartbeats 400000 in
theorem code_nil (w : World) : Calls Tryd.prog 8 #[.nilIface] w fun e w' => e = .returned (.int .i64 0) ∧ w = w' := by
  go_enter Tryd.func8, Tryd.ntmps8
  go_wp2_with fail
  go_ret
  exact ⟨rfl, rfl⟩
theorem chain_some {w : World} {v : Value} {L : List (Int × Int)} {r : Int} (h : Chain w v L r) : ∃ t x, v = .iface t x := by
  cases L with
  | nil => exact ⟨_, _, h⟩
  | cons l L => obtain ⟨p, u, e, _⟩ := h; exact ⟨_, _, e⟩
set_option maxHeartbeats 400000 in
/-- Code: of a chain its root's number. -/
theorem code_any (v : Value) (L : List (Int × Int)) (r : Int) (w : World) (h : Chain w v L r) (hg : ErrT w) :
    Calls Tryd.prog 8 #[v] w fun e w' => e = .returned (.int .i64 r) ∧ Below w.heap.size w w' := by
  obtain ⟨t, x, rfl⟩ := chain_some h
  have H := Lib.hid (descend_of _ _ r w (fun w' => w = w') (own_quiet _ L r w h))
  clear h
  go_enter Tryd.func8, Tryd.ntmps8
  go_wp2_with fail
  refine H.out.mono ?_
  rintro e w1 ⟨rfl, w0, rfl, hb⟩
  go_wp2_with fail
  refine (numberOf_errno _ _ (ErrT.on hg hb)).mono ?_
  rintro e w2 ⟨rfl, hb2⟩
  have hB := hb.trans (hb2.mono hb.size)
  clear hb hb2
  go_wp2_with fail
  go_ret
  exact ⟨rfl, hB⟩
end Go.Proofs.YtkhnjgadagkpjaaDoor.Flt
