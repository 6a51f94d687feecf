/- plate: the pieces of Write. -/
import Derived.Test.YtjfbgihjgnbeeaaW3
namespace Go.Proofs.Ytjfbgihjgnbeeaa.Pl
open Go Go.RowKit
theorem exec_nil {P : Program} {a : Act} {o : Oper} {x : Operand} (ho : o.op = .nilCheck x) {p : Addr} (hx : a.eval x = .pointer (some p)) (w : World) : (execOp a.eval o).run P w = .ok (.value (.pointer (some p))) w := by
  simp [execOp, ho, hx]
theorem exec_field2 {a : Act} {o : Oper} {x : Operand} (ho : o.op = .fieldAddr 68 x 2) {b : Nat} (hx : a.eval x = .pointer (some ⟨b, 0, none⟩)) (w : World) : (execOp a.eval o).run Try.prog w = .ok (.value (.pointer (some ⟨b, 2, none⟩))) w := by
  have u := run_underlying Try.underlying68 w
  have h : (execOp (fun _ => Value.pointer (some ⟨b, 0, none⟩)) { o with op := .fieldAddr 68 (.tmp 0) 2 }).run Try.prog w = .ok (.value (.pointer (some ⟨b, 2, none⟩))) w := by simp [execOp, u, go_sem]
  simpa [execOp, ho, hx] using h
theorem exec_field1 {a : Act} {o : Oper} {x : Operand} (ho : o.op = .fieldAddr 68 x 1) {b : Nat} (hx : a.eval x = .pointer (some ⟨b, 0, none⟩)) (w : World) : (execOp a.eval o).run Try.prog w = .ok (.value (.pointer (some ⟨b, 1, none⟩))) w := by
  have u := run_underlying Try.underlying68 w
  have h : (execOp (fun _ => Value.pointer (some ⟨b, 0, none⟩)) { o with op := .fieldAddr 68 (.tmp 0) 1 }).run Try.prog w = .ok (.value (.pointer (some ⟨b, 1, none⟩))) w := by simp [execOp, u, go_sem]
  simpa [execOp, ho, hx] using h
theorem exec_store66 {a : Act} {o : Oper} {x y : Operand} (ho : o.op = .store 66 x y) {p : Addr} {ao : Option Addr} {n c : Nat} {w : World} {old : Value} (hx : a.eval x = .pointer (some p)) (hy : a.eval y = .slice ao n c) (hc : w.cell? p = some old) (hf : w.frozen? p = false) :
    (execOp a.eval o).run Try.prog w = .ok .skip (w.setCell p (.slice ao n c)) := by
  have z := Try.sizeOf66
  have h : (storeVar 66 p (.slice ao n c)).run Try.prog w = .ok () (w.setCell p (.slice ao n c)) := by
    simp [storeVar, z, hc, hf, Value.cells, storeCells, go_sem]
  simp [execOp, ho, hx, hy, Instr.storeAt, Instr.sureAddr, h, Result.andThen]
theorem step_skips {P : Program} {ops : Array Oper} {o : Oper} {a : Act} {w w' : World} {K : Act → World → Prop} {Q : Exit → Act → World → Prop} {E : Prop} (hg : o.guard = none)
    (hrun : (execOp a.eval o).run P w = .ok .skip w') (h : K (a.put o.dst undef) w') : if Region.wanted o (yielded ops a.tmps) = true then Oper.wp P o a w K Q else E := by
  have hw : Region.wanted o (yielded ops a.tmps) = true := by simp [Region.wanted, hg]
  rw [if_pos hw]
  unfold Oper.wp
  rw [hrun]
  simp [go_sem]
  exact h
theorem news_at (w : World) (X : Array Value) (t : TypeId) : ∀ j u, X.toList[j]? = some u → (w.alloc (.cells X t)).cell? ((⟨w.heap.size, 0, none⟩ : Addr).add j) = some u := by
  intro j u h
  rw [Go.WideShapes.add_plain, Nat.zero_add, cell_of_row _ _ j X t (0, 0) (heap_alloc_new w _)]
  simpa using h
theorem wr_ones {i : Int} {p c : Array Value} (hp : IsPage p) (hc : IsPage c) : ∀ u ∈ (wr i p c).toList, u.oneCell' = true := by
  intro u hu
  have hu' : u ∈ Value.int .i64 i :: (p.toList ++ c.toList) := hu
  rcases List.mem_cons.1 hu' with rfl | hu'
  · rfl
  · rcases List.mem_append.1 hu' with hu' | hu'
    · exact hp.ones u hu'
    · exact hc.ones u hu'
/-- The writes' row has one more; the plate's block still tells of the old one. -/
def Got (w2 : World) (B b : Nat) (v : Value) (s : PSt) (i : Int) (c : Array Value) (w3 : World) (g cap : Nat) : Prop :=
  w3.cell? ⟨b, 2, none⟩ = some v ∧ w3.frozen? ⟨b, 2, none⟩ = false ∧ w3.ownsRow B 84 129 (.slice (some ⟨g, 0, none⟩) (s.op.length + 1) cap) (s.op.length + 1) (opCells s.op ++ (wr i (s.pg i) c).toList) ∧
    w2.grownBy w3 v.ownBlock ∧ (v.ownBlock = some g ∨ w2.heap.size ≤ g) ∧ g < w3.heap.size
theorem got_of {w2 w3 W : World} {B b n bm : Nat} {F : Nat → Prop} {v : Value} {s : PSt} (h : PlateAt w2 B F b n bm v s) {i : Int} {c X : Array Value} {t : TypeId} {g cap : Nat} (hW : W.heap = (w2.alloc (.cells X t)).heap) (hW' : W.os = w2.os ∧ W.tape = w2.tape ∧ W.output = w2.output)
    (hown : w3.ownsRow B 84 129 (.slice (some ⟨g, 0, none⟩) (s.op.length + 1) cap) (s.op.length + 1) (opCells s.op ++ (wr i (s.pg i) c).toList)) (hg : W.grownBy w3 v.ownBlock) (hat : v.ownBlock = some g ∨ g = W.heap.size) (hlt : g < w3.heap.size) : Got w2 B b v s i c w3 g cap := by
  have hs : W.heap.size = w2.heap.size + 1 := by rw [hW]; simp
  have hne : some b ≠ v.ownBlock := fun e => row_not_cells h.blk (by decide) h.row e.symm
  have old : ∀ k, k < w2.heap.size → W.heap[k]? = w2.heap[k]? := fun k hk => by rw [hW]; exact heap_alloc_old w2 _ hk
  have gg : w2.grownBy w3 v.ownBlock := ⟨hg.os.trans hW'.1, hg.tape.trans hW'.2.1, hg.output.trans hW'.2.2, by have := hg.size; omega, fun k hk hr => (hg.block k (by omega) hr).trans (old k hk)⟩
  have hblk := (gg.block b (h.hi b h.fb) hne).trans h.blk
  exact ⟨(cells6 hblk).2.2.1, free6 hblk, hown, gg, hat.imp id (fun e => by omega), hlt⟩
theorem setCell_turned (w : World) (b i : Nat) (v : Value) {G : Nat → Prop} (hG : G b) : Turned G w (w.setCell ⟨b, i, none⟩ v) := .of_grown (grown_set w b i v) (fun k e => by injection e with e; subst e; exact hG)
/-- The block tells of the new row. -/
theorem appended {w2 w3 : World} {B b n bm : Nat} {F : Nat → Prop} {v : Value} {s : PSt} (h : PlateAt w2 B F b n bm v s) {i : Int} {c : Array Value} {g cap : Nat} (hi : In64 i) (hp : IsPage c) (hm : ∀ j, IsPage (s.pg j)) (hG : Got w2 B b v s i c w3 g cap) :
    PlateAt (w3.setCell ⟨b, 2, none⟩ (.slice (some ⟨g, 0, none⟩) (s.op.length + 1) cap)) B (fun k => F k ∨ k = g) b n bm (.slice (some ⟨g, 0, none⟩) (s.op.length + 1) cap) { s with op := s.op ++ [(i, s.pg i, c)] } ∧
      Turned F w2 (w3.setCell ⟨b, 2, none⟩ (.slice (some ⟨g, 0, none⟩) (s.op.length + 1) cap)) := by
  obtain ⟨_, _, hown, hg, hat, hlt⟩ := hG
  have hne : some b ≠ v.ownBlock := fun e => row_not_cells h.blk (by decide) h.row e.symm
  have hblk := (hg.block b (h.hi b h.fb) hne).trans h.blk
  have t1 : Turned F w2 w3 := .of_grown hg (fun k e => h.fv k e)
  have t2 := t1.trans (setCell_turned w3 b 2 (.slice (some ⟨g, 0, none⟩) (s.op.length + 1) cap) h.fb) (fun i e => .inl e)
  have hbm : some bm ≠ v.ownBlock := fun e => row_not_map h.map h.row e.symm
  have hsz : w2.heap.size ≤ w3.heap.size := hg.size
  refine ⟨⟨?_, ?_, ?_, ?_, ?_, .inl h.fb, .inl h.fm, ?_, ?_, ?_, h.lb, h.ob, h.nb⟩, t2⟩
  · rw [set_block hblk]; rfl
  · exact (h.map.kept hg hbm).kept (grown_set _ _ _ _) (fun e => map_not_cells h.map h.blk (by injection e with e; exact e.symm))
  · have : w3.ownsRow B 84 129 (.slice (some ⟨g, 0, none⟩) (s.op.length + 1) cap) (s.op ++ [(i, s.pg i, c)]).length (opCells (s.op ++ [(i, s.pg i, c)])) := by rw [opCells_app, List.length_append]; exact hown
    exact this.kept (grown_set _ _ _ _) (.inr (row_not_cells hblk (by decide) hown))
  · intro t ht
    rcases List.mem_append.1 ht with ht | ht
    · exact h.each t ht
    · rw [List.mem_singleton.1 ht]; exact ⟨hi, hm i, hp⟩
  · rw [World.size_setCell]; have := h.base; omega
  · intro k hk
    have : g = k := by simpa [Value.ownBlock] using hk
    exact .inr this.symm
  · rintro k (hk | rfl)
    · exact h.low k hk
    · rcases hat with e | e
      · exact h.low _ (h.fv _ e)
      · have := h.base; omega
  · rintro k (hk | rfl)
    · have := h.hi k hk; rw [World.size_setCell]; omega
    · rw [World.size_setCell]; exact hlt
/-- The map is written anew. -/
theorem mapped {w w' : World} {B b n bm : Nat} {F : Nat → Prop} {v : Value} {s : PSt} (h : PlateAt w B F b n bm v s) {m : Nat} {pg : Int → Array Value} (hm : MapIs w' bm m pg) (hg : w.grownBy w' (some bm)) : PlateAt w' B F b m bm v { s with pg := pg } ∧ Turned F w w' := by
  have hbm := map_not_cells h.map h.blk
  refine ⟨⟨(hg.block b (h.hi b h.fb) (fun e => hbm (by injection e))).trans h.blk, hm, h.row.kept hg (.inr (row_not_map h.map h.row)), h.each, Nat.le_trans h.base hg.size, h.fb, h.fm, h.fv, h.low, fun k hk => Nat.lt_of_lt_of_le (h.hi k hk) hg.size, h.lb, h.ob, h.nb⟩, .of_grown hg (fun k e => by injection e with e; subst e; exact h.fm)⟩
theorem pages_of {w : World} {B b n bm : Nat} {F : Nat → Prop} {v : Value} {s : PSt} (h : PlateAt w B F b n bm v s) : ∀ j, IsPage (s.pg j) := by
  obtain ⟨_, _, _, _, h4⟩ := h.map; exact h4
end Go.Proofs.Ytjfbgihjgnbeeaa.Pl
