/- plate: how a write is laid down: a struct with two pages in it. -/
import Derived.Test.YtjfbgihjgnbeeaaW2
import Derived.Great.BuildSlice
namespace Go.Proofs.Ytjfbgihjgnbeeaa.Pl
open Go Go.RowKit
theorem fill_at (off : Nat) : ∀ (l : List Value) (k : Nat) (cells : Array Value) (m : Nat), off + k + l.length ≤ cells.size →
    ((l.zipIdx k).foldl (fun (cs : Array Value) (p : Value × Nat) => cs.setIfInBounds (off + p.2) p.1) cells)[m]? = if off + k ≤ m ∧ m < off + k + l.length then l[m - (off + k)]? else cells[m]?
  | [], k, cells, m, _ => by
    simp
    omega
  | x :: l, k, cells, m, h => by
    simp only [List.length_cons] at h
    rw [List.zipIdx_cons, List.foldl_cons, fill_at off l (k + 1) _ m (by simp; omega)]
    by_cases h1 : off + (k + 1) ≤ m ∧ m < off + (k + 1) + l.length
    · rw [if_pos h1, if_pos (by simp only [List.length_cons]; omega), show m - (off + k) = (m - (off + (k + 1))) + 1 by omega]
      simp
    · rw [if_neg h1]
      by_cases h2 : m = off + k
      · subst h2
        rw [if_pos (by simp only [List.length_cons]; omega), Nat.sub_self, List.getElem?_cons_zero, Array.getElem?_setIfInBounds_self_of_lt (by omega)]
      · rw [if_neg (by simp only [List.length_cons]; omega), Array.getElem?_setIfInBounds_ne (by omega)]
/-- The cells of a write: its page's number, what the page had, what it has. -/
def wr (i : Int) (p c : Array Value) : Array Value := (Value.int .i64 i :: (p.toList ++ c.toList)).toArray
theorem wr_size {i : Int} {p c : Array Value} (hp : p.size = 64) (hc : c.size = 64) : (wr i p c).size = 129 := by simp [wr, hp, hc]
theorem info84 : (Try.prog.info? 84).map (fun i => (i.zero, i.size, i.bytes)) = some (some (.agg (wr 0 Zp Zp)), 129, 136) := by kernel_rfl
theorem size84 : (Try.prog.info? 84).map (·.size) = some 129 := by kernel_rfl
theorem places84 : (Try.prog.fieldsOf 84).toList.mapM (fun f => (Try.prog.info? f.type).map fun i => (f.offset, i.size)) = some [(0, 1), (1, 64), (65, 64)] := by kernel_rfl
theorem built84 (i : Int) (p c : Array Value) (hp : p.size = 64) (hc : c.size = 64) : Try.prog.built 84 [(0, .int .i64 i), (1, .agg p), (2, .agg c)] = some (wr i p c) := by
  obtain ⟨it, hi, hz, _⟩ := info_parts info84
  have hu : Try.prog.underlying 84 = some (.struct (Try.prog.fieldsOf 84)) := by kernel_rfl
  unfold Program.built
  rw [hi, hu]
  simp only [hz, places84]
  have e0 : (Value.cells (.int .i64 i)) = #[Value.int .i64 i] := rfl
  have e1 : ∀ x : Array Value, (Value.agg x).cells = x := fun _ => rfl
  have s0 : (wr 0 Zp Zp).size = 129 := wr_size zp_page.1 zp_page.1
  simp only [Instr.fill, e0, e1, List.getElem?_toArray, List.getElem?_cons_zero, List.getElem?_cons_succ]
  have big : ∀ (off : Nat) (l : List Value) (cs : Array Value) (m : Nat), off + l.length ≤ cs.size → ((l.zipIdx 0).foldl (fun (cs : Array Value) (p : Value × Nat) => cs.setIfInBounds (off + p.2) p.1) cs)[m]? = if off ≤ m ∧ m < off + l.length then l[m - off]? else cs[m]? :=
    fun off l cs m h => fill_at off l 0 cs m (by omega)
  have siz : ∀ (off : Nat) (l : List Value) (k : Nat) (cs : Array Value), ((l.zipIdx k).foldl (fun (cs : Array Value) (p : Value × Nat) => cs.setIfInBounds (off + p.2) p.1) cs).size = cs.size := by
    intro off l
    induction l with
    | nil => intro k cs; rfl
    | cons x l ih => intro k cs; rw [List.zipIdx_cons, List.foldl_cons, ih]; simp
  have fz : ∀ (off : Nat) (c cs : Array Value), c.zipIdx.foldl (fun (cs : Array Value) (p : Value × Nat) => cs.setIfInBounds (off + p.2) p.1) cs = (c.toList.zipIdx 0).foldl (fun (cs : Array Value) (p : Value × Nat) => cs.setIfInBounds (off + p.2) p.1) cs := by
    intro off c cs
    rw [← Array.foldl_toList, Array.toList_zipIdx]
  rw [if_neg (by simp [s0])]
  rw [if_neg (by rw [fz]; simp [s0, hp])]
  rw [if_neg (by rw [fz, fz]; simp [siz, s0, hc])]
  rw [fz, fz, fz]
  generalize wr 0 Zp Zp = z0 at *
  refine congrArg some ?_
  apply Array.ext_getElem?
  intro m
  rw [big 65 _ _ m (by simp [siz, s0, hc]), big 1 _ _ m (by simp [s0, hp]), big 0 _ _ m (by simp [s0])]
  have hcl : c.toList.length = 64 := by simpa using hc
  have hpl : p.toList.length = 64 := by simpa using hp
  simp only [hcl, hpl, wr, List.getElem?_toArray]
  by_cases h1 : 65 ≤ m ∧ m < 65 + 64
  · rw [if_pos h1, show m = (m - 65 + 64) + 1 by omega, List.getElem?_cons_succ, List.getElem?_append_right (by rw [hpl]; omega), hpl]
    congr 1
  · rw [if_neg h1]
    by_cases h2 : 1 ≤ m ∧ m < 1 + 64
    · rw [if_pos h2, show m = (m - 1) + 1 by omega, List.getElem?_cons_succ, List.getElem?_append_left (by rw [hpl]; omega)]
      simp
    · rw [if_neg h2]
      by_cases h3 : m = 0
      · subst h3; simp
      · rw [if_neg (by simp; omega), Array.getElem?_eq_none (by rw [s0]; omega), List.getElem?_eq_none (by simp [hp, hc]; omega)]
theorem exec_build84 {a : Act} {o : Oper} {x y z : Operand} (ho : o.op = .build 84 #[(0, x), (1, y), (2, z)]) {i : Int} {p c : Array Value} (hx : a.eval x = .int .i64 i) (hy : a.eval y = .agg p) (hz : a.eval z = .agg c) (hp : p.size = 64) (hc : c.size = 64) (w : World) :
    (execOp a.eval o).run Try.prog w = .ok (.value (.agg (wr i p c))) w := by
  have := run_build w 84 #[(0, .int .i64 i), (1, .agg p), (2, .agg c)] _ (built84 i p c hp hc)
  simp [execOp, ho, hx, hy, hz, this, Result.andThen]
theorem exec_slice66 {a : Act} {o : Oper} {x : Operand} (ho : o.op = .buildSlice 66 1 #[(0, x)]) {X : Array Value} (hx : a.eval x = .agg X) (hX : X.size = 129) (w : World) :
    (execOp a.eval o).run Try.prog w = .ok (.value (.slice (some ⟨w.heap.size, 0, none⟩) 1 1)) (w.alloc (.cells X 84)) := by
  obtain ⟨it, hi, hz, hs, _⟩ := info_parts info84
  have hf : Instr.fill (fun i => some (i * it.size, it.size)) ((Array.range (1 * it.size)).map ((Value.agg (wr 0 Zp Zp)).cells[· % (Value.agg (wr 0 Zp Zp)).cells.size]!)) [(0, .agg X)] = some X := by
    rw [hs]
    have e1 : ∀ x : Array Value, (Value.agg x).cells = x := fun _ => rfl
    simp only [Instr.fill, e1]
    rw [if_neg (by simp [hX])]
    refine congrArg some ?_
    rw [← Array.foldl_toList, Array.toList_zipIdx]
    apply Array.ext_getElem?
    intro m
    rw [fill_at (0 * 129) X.toList 0 _ m (by simp [hX])]
    by_cases h : m < 129
    · rw [if_pos (by simp [hX]; omega)]; simp
    · rw [if_neg (by simp [hX]; omega), Array.getElem?_eq_none (by simp; omega), Array.getElem?_eq_none (by omega)]
  have := run_buildSlice w 66 84 1 #[(0, .agg X)] X it (.agg (wr 0 Zp Zp)) Try.underlying66 hi hz (by rw [hs]; decide) (by rw [hs]; decide) hf
  simp [execOp, ho, hx, this, Result.andThen]
theorem exec_load1 {P : Program} {a : Act} {o : Oper} {t : TypeId} {x : Operand} (ho : o.op = .load t x) {p : Addr} {v : Value} {w : World} (ht : (isAgg t).run P w = .ok false w) (hx : a.eval x = .pointer (some p)) (hc : w.cell? p = some v) :
    (execOp a.eval o).run P w = .ok (.value v) w := by
  have hl : (loadVar t p).run P w = .ok v w := by simp [loadVar, ht, hc, go_sem]
  simp [execOp, ho, hx, Instr.loadAt, Instr.sureAddr, hl, Result.andThen]
theorem exec_look65 {a : Act} {o : Oper} {x y : Operand} (ho : o.op = .lookup 65 x y false) {bm n : Nat} {pg : Int → Array Value} {i : Int} {w : World} (hx : a.eval x = .map (some bm)) (hy : a.eval y = .int .i64 i) (hm : MapIs w bm n pg) (hi : In64 i) :
    (execOp a.eval o).run Try.prog w = .ok (.value (.agg (pg i))) w := by
  simp [execOp, ho, hx, hy, hm.look hi, Result.andThen]
theorem exec_alloc82 {a : Act} {o : Oper} (ho : o.op = .alloc 82) (w : World) : (execOp a.eval o).run Try.prog w = .ok (.value (.pointer (some ⟨w.heap.size, 0, none⟩))) (w.alloc (.cells Zp 82)) := by
  have := zero82 w
  simp [execOp, ho, Instr.alloc, this, newVar, Result.andThen, go_sem]
theorem exec_slice82 {a : Act} {o : Oper} {x : Operand} (ho : o.op = .slice 82 x none none none) {g : Nat} (hx : a.eval x = .pointer (some ⟨g, 0, none⟩)) (w : World) :
    (execOp a.eval o).run Try.prog w = .ok (.value (.slice (some ⟨g, 0, none⟩) 64 64)) w := by
  have u := run_underlying Try.underlying82 w
  have h : (Instr.sliceAt 82 (.pointer (some ⟨g, 0, none⟩)) none none none).run Try.prog w = .ok (.slice (some ⟨g, 0, none⟩) 64 64) w := by
    simp [u, go_sem]
  simp [execOp, ho, hx, h, Result.andThen]
theorem exec_move {P : Program} {a : Act} {o : Oper} {x : Operand} (ho : o.op = .move x) {v : Value} (hx : a.eval x = v) (w : World) : (execOp a.eval o).run P w = .ok (.value v) w := by
  simp [execOp, ho, hx]
theorem wpList_turns {P : Program} {ops : Array Oper} {rest : List Oper} {o : Oper} {a : Act} {w w' : World} {Q : Exit → Act → World → Prop} {v : Value} (hg : o.guard = none)
    (hrun : (execOp a.eval o).run P w = .ok (.value v) w') (h : wpList P ops Q rest (a.put o.dst v) w') : wpList P ops Q (o :: rest) a w :=
  wpList_plain hg fun K hK => by
    unfold Oper.wp
    rw [hrun]
    simp [go_sem]
    exact hK _ _ h
/-- One operation of a region that draws its order. -/
theorem step_turns {P : Program} {ops : Array Oper} {o : Oper} {a : Act} {w w' : World} {K : Act → World → Prop} {Q : Exit → Act → World → Prop} {E : Prop} {v : Value} (hg : o.guard = none)
    (hrun : (execOp a.eval o).run P w = .ok (.value v) w') (h : K (a.put o.dst v) w') : if Region.wanted o (yielded ops a.tmps) = true then Oper.wp P o a w K Q else E := by
  have hw : Region.wanted o (yielded ops a.tmps) = true := by simp [Region.wanted, hg]
  rw [if_pos hw]
  unfold Oper.wp
  rw [hrun]
  simp [go_sem]
  exact h
end Go.Proofs.Ytjfbgihjgnbeeaa.Pl
