/- plate: what the writes make of the pages when the power comes again. -/
import Derived.Test.YtjfbgihjgnbeeaaW6
namespace Go.Proofs.Ytjfbgihjgnbeeaa.Pl
open Go Go.RowKit
def wy (ks : List Value) (k : Nat) : Int := match ks[k]? with | some (.int _ x) => x % 4 | _ => 0
theorem way_any (ao : Option Addr) (len cap : Nat) (ks : List Value) (k : Nat) (w : World) (hl : ks.length = len) (hlen : len < 4611686018427387904) (hk : k < 4611686018427387904) (hsrc : Src w ao ks) :
    Calls Try.prog 42 #[.agg #[.slice ao len cap], .int .i64 k] w fun e w' => e = .returned (.int .i64 (wy ks k)) ∧ Below w.heap.size w w' := by
  by_cases h : k < len
  · obtain ⟨ad, rfl, hc⟩ := hsrc.1 (by omega)
    obtain ⟨x, ex, x0, x1⟩ := hsrc.2 ks[k] (List.getElem_mem (by omega))
    have hk' : ks[k]? = some (.int .u8 x) := by rw [List.getElem?_eq_getElem (by omega), ex]
    have e : wy ks k = x % 4 := by simp [wy, hk']
    rw [e]
    exact way_some ad len cap k x w h hlen (hc k _ hk') x0 x1
  · have e : wy ks k = 0 := by simp [wy, List.getElem?_eq_none (show ks.length ≤ k by omega)]
    rw [e]
    exact way_none ao len cap k w (by omega) hk
/-- The pages when k writes have come over them. -/
def rep (ks : List Value) (L : List Ent) (pg : Int → Array Value) : Nat → Int → Array Value
  | 0 => pg
  | k + 1 => match L[k]? with
    | some t => upd (rep ks L pg k) t.1.1 (Ov (rep ks L pg k t.1.1) t.1.2.2 (wy ks k))
    | none => rep ks L pg k
theorem rep_succ {ks : List Value} {L : List Ent} {pg : Int → Array Value} {k : Nat} {t : Ent} (h : L[k]? = some t) : rep ks L pg (k + 1) = upd (rep ks L pg k) t.1.1 (Ov (rep ks L pg k t.1.1) t.1.2.2 (wy ks k)) := by simp [rep, h]
/-- What a round of the loop reads. -/
def Sh (q b bm Bx : Nat) (ao : Option Addr) (len cap : Nat) (t : Ent) (W : World) : Prop :=
  W.heap[q]? = some (.cells #[.pointer (some ⟨b, 0, none⟩)] 24 (0, 0)) ∧ W.heap[q + 1]? = some (.cells #[.slice ao len cap] 53 (0, 0)) ∧ W.heap[Bx]? = some (.cells t.cells 84 (0, 0)) ∧ W.cell? ⟨b, 1, none⟩ = some (.map (some bm))
theorem cell1 {w : World} {b : Nat} {v : Value} {t : TypeId} (h : w.heap[b]? = some (.cells #[v] t (0, 0))) : w.cell? ⟨b, 0, none⟩ = some v := by simp [World.cell?, h]
theorem block_lt {w : World} {b : Nat} {o : Obj} (h : w.heap[b]? = some o) : b < w.heap.size := (Array.getElem?_eq_some_iff.1 h).1
theorem Sh.on {q b bm Bx : Nat} {ao : Option Addr} {len cap : Nat} {t : Ent} {W W' : World} (h : Sh q b bm Bx ao len cap t W) {r : Option Nat} (hg : W.grownBy W' r) (h0 : some q ≠ r) (h1 : some (q + 1) ≠ r) (h2 : some Bx ≠ r) (h3 : some b ≠ r) : Sh q b bm Bx ao len cap t W' :=
  ⟨(hg.block _ (block_lt h.1) h0).trans h.1, (hg.block _ (block_lt h.2.1) h1).trans h.2.1, (hg.block _ (block_lt h.2.2.1) h2).trans h.2.2.1, hg.cell h.2.2.2 h3⟩
theorem size53 : (Try.prog.info? 53).map (·.size) = some 1 := by kernel_rfl
theorem exec_store4 {a : Act} {o : Oper} {x y : Operand} (ho : o.op = .store 4 x y) {p : Addr} {z : Bool} {w : World} {old : Value} (hx : a.eval x = .pointer (some p)) (hy : a.eval y = .bool z) (hc : w.cell? p = some old) (hf : w.frozen? p = false) :
    (execOp a.eval o).run Try.prog w = .ok .skip (w.setCell p (.bool z)) := by
  have z4 := Try.sizeOf4
  have h : (storeVar 4 p (.bool z)).run Try.prog w = .ok () (w.setCell p (.bool z)) := by
    simp [storeVar, z4, hc, hf, Value.cells, storeCells, go_sem]
  simp [execOp, ho, hx, hy, Instr.storeAt, Instr.sureAddr, h, Result.andThen]
theorem exec_store3 {a : Act} {o : Oper} {x y : Operand} (ho : o.op = .store 3 x y) {p : Addr} {z : Int} {w : World} {old : Value} (hx : a.eval x = .pointer (some p)) (hy : a.eval y = .int .i64 z) (hc : w.cell? p = some old) (hf : w.frozen? p = false) :
    (execOp a.eval o).run Try.prog w = .ok .skip (w.setCell p (.int .i64 z)) := by
  have z3 := Try.sizeOf3
  have h : (storeVar 3 p (.int .i64 z)).run Try.prog w = .ok () (w.setCell p (.int .i64 z)) := by
    simp [storeVar, z3, hc, hf, Value.cells, storeCells, go_sem]
  simp [execOp, ho, hx, hy, Instr.storeAt, Instr.sureAddr, h, Result.andThen]
theorem exec_field3 {a : Act} {o : Oper} {x : Operand} (ho : o.op = .fieldAddr 68 x 3) {b : Nat} (hx : a.eval x = .pointer (some ⟨b, 0, none⟩)) (w : World) : (execOp a.eval o).run Try.prog w = .ok (.value (.pointer (some ⟨b, 3, none⟩))) w := by
  have u := run_underlying Try.underlying68 w
  have h : (execOp (fun _ => Value.pointer (some ⟨b, 0, none⟩)) { o with op := .fieldAddr 68 (.tmp 0) 3 }).run Try.prog w = .ok (.value (.pointer (some ⟨b, 3, none⟩))) w := by simp [execOp, u, go_sem]
  simpa [execOp, ho, hx] using h
theorem exec_field4 {a : Act} {o : Oper} {x : Operand} (ho : o.op = .fieldAddr 68 x 4) {b : Nat} (hx : a.eval x = .pointer (some ⟨b, 0, none⟩)) (w : World) : (execOp a.eval o).run Try.prog w = .ok (.value (.pointer (some ⟨b, 4, none⟩))) w := by
  have u := run_underlying Try.underlying68 w
  have h : (execOp (fun _ => Value.pointer (some ⟨b, 0, none⟩)) { o with op := .fieldAddr 68 (.tmp 0) 4 }).run Try.prog w = .ok (.value (.pointer (some ⟨b, 4, none⟩))) w := by simp [execOp, u, go_sem]
  simpa [execOp, ho, hx] using h
theorem Src.turned {w w' : World} {ao : Option Addr} {ks : List Value} {G : Nat → Prop} (h : Src w ao ks) (ht : Turned G w w') (hG : ∀ ad, ao = some ad → ¬ G ad.block) : Src w' ao ks := by
  refine ⟨fun h0 => ?_, h.2⟩
  obtain ⟨ad, e, hc⟩ := h.1 h0
  refine ⟨ad, e, fun j v hv => ?_⟩
  have hb := World.block_lt_of_cell? _ _ (hc j v hv)
  have eb : (ad.add j).block = ad.block := by unfold Addr.add; split <;> rfl
  exact (World.cell?_of_block (ht.block _ hb (by rw [eb]; exact hG ad e))).trans (hc j v hv)
theorem turned_alloc {w : World} (o : Obj) : Turned (fun _ => False) w (w.alloc o) := .of_grown (World.grownBy_alloc w o none) (fun k e => by cases e)
theorem below_turned0 {w w' : World} (h : Below w.heap.size w w') : Turned (fun _ => False) w w' := .of_grown (below_grown h) (fun k e => by cases e)
end Go.Proofs.Ytjfbgihjgnbeeaa.Pl
