/- plate: the row of writes, read; operations inside a range over a function. -/
import Derived.Test.YtjfbgihjgnbeeaaW5
import Derived.RangeFuncNested
import Derived.RangeFuncBound
import Derived.RangeFuncCalls
import Derived.RangeFuncLeaves
import Derived.Shelf.Abstract
import Derived.Shelf.RegionOpen
import Derived.OwnWalkIn
import Derived.TacticsInMore
import Derived.LoopNIn
import Derived.LoopIn
import Derived.Deep.MidRow
namespace Go.Proofs.Ytjfbgihjgnbeeaa.Pl
open Go Go.RowKit
theorem wpListIn_turns {F : Fence} {n : Nat} {P : Program} {ops : Array Oper} {rest : List Oper} {o : Oper} {a : Act} {w w' : World} {Q : Exit → Act → World → Prop} {v : Value} (hg : o.guard = none) (hd : ∀ c, o.op ≠ .defer c) (hab : o.about P w a.eval = none)
    (hrun : (execOp a.eval o).run P w = .ok (.value v) w') (h : wpListIn F n P ops Q rest (a.put o.dst v) w') : wpListIn F n P ops Q (o :: rest) a w :=
  wpListIn_plain hg fun K hK => by
    unfold Oper.wpIn
    refine ⟨fun f hf => (by rw [hab] at hf; cases hf), ?_⟩
    rw [Oper.semAt_eq _ _ _ hd, hrun, Oper.uponIn_value]
    exact hK _ _ h
theorem wpListIn_skips {F : Fence} {n : Nat} {P : Program} {ops : Array Oper} {rest : List Oper} {o : Oper} {a : Act} {w w' : World} {Q : Exit → Act → World → Prop} (hg : o.guard = none) (hd : ∀ c, o.op ≠ .defer c) (hab : o.about P w a.eval = none)
    (hrun : (execOp a.eval o).run P w = .ok .skip w') (h : wpListIn F n P ops Q rest (a.put o.dst undef) w') : wpListIn F n P ops Q (o :: rest) a w :=
  wpListIn_plain hg fun K hK => by
    unfold Oper.wpIn
    refine ⟨fun f hf => (by rw [hab] at hf; cases hf), ?_⟩
    rw [Oper.semAt_eq _ _ _ hd, hrun, Oper.uponIn_skip]
    exact hK _ _ h
theorem exec_load_mid {P : Program} {o : Oper} {a : Act} {w : World} (ty : TypeId) (x : Operand) (ho : o.op = .load ty x) (b k : Nat) (hx : a.eval x = .pointer (some ⟨b, k, none⟩)) (cs : List Value) (d : TypeDesc) (hc : w.rangeAt b k cs)
    (hu : P.underlying ty = some d) (hd : d.isRow = true) (hi : (P.info? ty).map (·.size) = some cs.length) : (execOp a.eval o).run P w = .ok (.value (.agg cs.toArray)) w := by
  simp [execOp, ho, hx, run_loadAt_mid w b k ty cs d hc hu hd hi, Result.andThen]
theorem exec_store_row {P : Program} {o : Oper} {a : Act} {w : World} (ty : TypeId) (x y : Operand) (ho : o.op = .store ty x y) (g : Nat) (cells : Array Value) (hx : a.eval x = .pointer (some ⟨g, 0, none⟩)) (hy : a.eval y = .agg cells)
    (t : TypeId) (old : Array Value) (hg : w.heap[g]? = some (.cells old t (0, 0))) (hi : (P.info? ty).map (·.size) = some cells.size) (hold : old.size = cells.size) (h1 : cells.all (·.oneCell') = true) :
    (execOp a.eval o).run P w = .ok .skip (w.setRow g cells) := by
  simp [execOp, ho, hx, hy, Instr.storeAt, Instr.sureAddr, run_storeVar_row w g t ty old cells hg hi hold h1, Result.andThen]
theorem exec_idx66 {a : Act} {o : Oper} {x y : Operand} (ho : o.op = .indexAddr 66 x y) {g k len cap : Nat} (hx : a.eval x = .slice (some ⟨g, 0, none⟩) len cap) (hy : a.eval y = .int .i64 k) (hk : k < len) (w : World) :
    (execOp a.eval o).run Try.prog w = .ok (.value (.pointer (some ⟨g, k * 129, none⟩))) w := by
  have u := run_underlying Try.underlying66 w
  have z := Try.sizeOf84 w
  have h0 : ((k : Int) < (len : Int)) := by omega
  have h : (execOp (fun p => match p with | .tmp 0 => Value.slice (some ⟨g, 0, none⟩) len cap | _ => Value.int .i64 k) { o with op := .indexAddr 66 (.tmp 0) (.tmp 1) }).run Try.prog w = .ok (.value (.pointer (some ⟨g, k * 129, none⟩))) w := by
    simp [execOp, u, z, h0, hk, go_sem]
  simpa [execOp, ho, hx, hy] using h
theorem exec_alloc84 {a : Act} {o : Oper} (ho : o.op = .alloc 84) (w : World) : (execOp a.eval o).run Try.prog w = .ok (.value (.pointer (some ⟨w.heap.size, 0, none⟩))) (w.alloc (.cells (wr 0 Zp Zp) 84)) := by
  have z : (zeroValue 84).run Try.prog w = .ok (.agg (wr 0 Zp Zp)) w := by kernel_rfl
  simp [execOp, ho, Instr.alloc, z, newVar, Result.andThen, go_sem]
theorem exec_field84 {a : Act} {o : Oper} {x : Operand} {k : Nat} (ho : o.op = .fieldAddr 84 x k) {b : Nat} (hx : a.eval x = .pointer (some ⟨b, 0, none⟩)) (hk : k = 0 ∨ k = 1 ∨ k = 2) (w : World) : (execOp a.eval o).run Try.prog w = .ok (.value (.pointer (some ⟨b, if k = 0 then 0 else if k = 1 then 1 else 65, none⟩))) w := by
  have u := run_underlying Try.underlying84 w
  rcases hk with rfl | rfl | rfl
  · have h : (execOp (fun _ => Value.pointer (some ⟨b, 0, none⟩)) { o with op := .fieldAddr 84 (.tmp 0) 0 }).run Try.prog w = .ok (.value (.pointer (some ⟨b, 0, none⟩))) w := by simp [execOp, u, go_sem]
    simpa [execOp, ho, hx] using h
  · have h : (execOp (fun _ => Value.pointer (some ⟨b, 0, none⟩)) { o with op := .fieldAddr 84 (.tmp 0) 1 }).run Try.prog w = .ok (.value (.pointer (some ⟨b, 1, none⟩))) w := by simp [execOp, u, go_sem]
    simpa [execOp, ho, hx] using h
  · have h : (execOp (fun _ => Value.pointer (some ⟨b, 0, none⟩)) { o with op := .fieldAddr 84 (.tmp 0) 2 }).run Try.prog w = .ok (.value (.pointer (some ⟨b, 65, none⟩))) w := by simp [execOp, u, go_sem]
    simpa [execOp, ho, hx] using h
/-- A write that is well told. -/
abbrev Ent := { t : Int × Array Value × Array Value // In64 t.1 ∧ IsPage t.2.1 ∧ IsPage t.2.2 }
def Ent.cells (t : Ent) : Array Value := wr t.1.1 t.1.2.1 t.1.2.2
theorem Ent.size (t : Ent) : t.cells.size = 129 := wr_size t.2.2.1.1 t.2.2.2.1
theorem Ent.one (t : Ent) : t.cells.all (·.oneCell') = true := by
  rw [Array.all_eq_true']
  intro x hx
  exact wr_ones t.2.2.1 t.2.2.2 x (by simpa [Ent.cells] using hx)
theorem Ent.list (t : Ent) : t.cells = (Value.int .i64 t.1.1 :: (t.1.2.1.toList ++ t.1.2.2.toList)).toArray := rfl
theorem Ent.at0 {t : Ent} {w : World} {B : Nat} (h : w.heap[B]? = some (.cells t.cells 84 (0, 0))) : w.cell? ⟨B, 0, none⟩ = some (.int .i64 t.1.1) := by
  rw [cell_of_row _ _ 0 _ _ _ h, t.list]; rfl
theorem Ent.at1 {t : Ent} {w : World} {B : Nat} (h : w.heap[B]? = some (.cells t.cells 84 (0, 0))) : w.rangeAt B 1 t.1.2.1.toList := fun j u hu => by
  have hj := (List.getElem?_eq_some_iff.1 hu).1
  rw [cell_of_row _ _ (1 + j) _ _ _ h, t.list, List.getElem?_toArray, Nat.add_comm 1 j, List.getElem?_cons_succ, List.getElem?_append_left hj, hu]
theorem Ent.at2 {t : Ent} {w : World} {B : Nat} (h : w.heap[B]? = some (.cells t.cells 84 (0, 0))) : w.rangeAt B 65 t.1.2.2.toList := fun j u hu => by
  have h1 : t.1.2.1.toList.length = 64 := by simpa using t.2.2.1.1
  rw [cell_of_row _ _ (65 + j) _ _ _ h, t.list, List.getElem?_toArray, show 65 + j = (64 + j) + 1 by omega, List.getElem?_cons_succ, List.getElem?_append_right (by omega), h1, show 64 + j - 64 = j by omega, hu]
theorem ents (l : List (Int × Array Value × Array Value)) (h : ∀ t ∈ l, In64 t.1 ∧ IsPage t.2.1 ∧ IsPage t.2.2) : ∃ L : List Ent, L.map Subtype.val = l :=
  ⟨l.pmap (fun t ht => ⟨t, ht⟩) h, by simp [List.map_pmap]⟩
/-- The writes stand in a row in block g. -/
def RowAt (w : World) (g : Nat) (L : List Ent) : Prop := ∀ k t, L[k]? = some t → w.rangeAt g (k * 129) t.cells.toList
theorem opCells_at : ∀ (L : List Ent) (k : Nat) (t : Ent) (j : Nat) (u : Value), L[k]? = some t → t.cells.toList[j]? = some u → (opCells (L.map Subtype.val))[k * 129 + j]? = some u
  | [], k, t, j, u, h, _ => by simp at h
  | x :: L, 0, t, j, u, h, hu => by
    simp at h
    subst h
    have : (opCells ((x :: L).map Subtype.val)) = x.cells.toList ++ opCells (L.map Subtype.val) := rfl
    rw [this, Nat.zero_mul, Nat.zero_add, List.getElem?_append_left (List.getElem?_eq_some_iff.1 hu).1]
    exact hu
  | x :: L, k + 1, t, j, u, h, hu => by
    have hk : L[k]? = some t := by simpa using h
    have : (opCells ((x :: L).map Subtype.val)) = x.cells.toList ++ opCells (L.map Subtype.val) := rfl
    have hx : x.cells.toList.length = 129 := by simpa using x.size
    rw [this, List.getElem?_append_right (by rw [hx]; omega), hx, show (k + 1) * 129 + j - 129 = k * 129 + j by omega]
    exact opCells_at L k t j u hk hu
theorem row_at {w : World} {B : Nat} {v : Value} {L : List Ent} (h : w.ownsRow B 84 129 v L.length (opCells (L.map Subtype.val))) (hL : L ≠ []) : ∃ g cap, v = .slice (some ⟨g, 0, none⟩) L.length cap ∧ g < w.heap.size ∧ RowAt w g L := by
  have h' := h
  rcases h.2 with ⟨_, h0⟩ | ⟨g, cap, cur, e, _, hg, _⟩
  · exact absurd (List.eq_nil_of_length_eq_zero h0) hL
  · refine ⟨g, cap, e, (Array.getElem?_eq_some_iff.1 hg).1, fun k t ht j u hu => ?_⟩
    have := h'.cells (g := g) (by rw [e]; rfl) (k * 129 + j) u (opCells_at L k t j u ht hu)
    rwa [Go.WideShapes.add_plain, Nat.zero_add] at this
theorem RowAt.kept {w w' : World} {g : Nat} {L : List Ent} (h : RowAt w g L) (he : w'.heap[g]? = w.heap[g]?) : RowAt w' g L := fun k t ht j u hu => (World.cell?_of_block he).trans (h k t ht j u hu)
end Go.Proofs.Ytjfbgihjgnbeeaa.Pl
