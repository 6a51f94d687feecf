/- plate: put, walked. -/
import Derived.Test.YtjfbgihjgnbeeaaA0
import Derived.StillTailTactics
import Derived.Laws.Rows
import Derived.Outline
namespace Go.Proofs.Ytjfbgihjgnbeeaa.Pl
open Go Go.RowKit
theorem wpList_value {P : Program} {ops : Array Oper} {rest : List Oper} {o : Oper} {a : Act} {w : World} {Q : Exit → Act → World → Prop} {v : Value} (hg : o.guard = none)
    (hrun : (execOp a.eval o).run P w = .ok (.value v) w) (h : wpList P ops Q rest (a.put o.dst v) w) : wpList P ops Q (o :: rest) a w :=
  wpList_plain hg fun K hK => by
    unfold Oper.wp
    rw [hrun]
    simp [go_sem]
    exact hK _ _ h
theorem exec_eq82 {a : Act} {o : Oper} {x y : Operand} (ho : o.op = .binOp .eql 82 x y 82) {xs ys : Array Value} (hx : a.eval x = .agg xs) (hy : a.eval y = .agg ys) {w : World} {b : Bool}
    (h : (binOp .eql 82 (.agg xs) (.agg ys)).run Try.prog w = .ok (.bool b) w) : (execOp a.eval o).run Try.prog w = .ok (.value (.bool b)) w := by
  have hm : Try.prog.eqGuardType Try.prog.depth 82 = false := by kernel_rfl
  simp [execOp, ho, hx, hy, run_eqGuard_agg, hm, h, Result.andThen]
theorem exec_zero82 {a : Act} {o : Oper} (ho : o.op = .build 82 #[]) (w : World) : (execOp a.eval o).run Try.prog w = .ok (.value (.agg Zp)) w := by
  have hb : Try.prog.built 82 [] = some Zp := by kernel_rfl
  have := run_build w 82 #[] Zp hb
  simp [execOp, ho, this, Result.andThen]
/-- In a head that only reads: an operation that yields v. -/
theorem wpStill_value {P : Program} {ops : Array Oper} {w : World} {Q : Act → Prop} {a : Act} {o : Oper} {rest : List Oper} {v : Value} (hg : o.guard = none)
    (hrun : (execOp a.eval o).run P w = .ok (.value v) w) (h : wpStill P ops w Q rest (a.put o.dst v)) : wpStill P ops w Q (o :: rest) a :=
  wpStill_step fun K hK => by
    simp only [Region.wanted, hg, if_true]
    unfold Oper.still
    rw [hrun]
    exact ⟨rfl, hK _ h⟩
theorem exec_load_row {P : Program} {o : Oper} {a : Act} {w : World} (ty : TypeId) (x : Operand) (ho : o.op = .load ty x)
    (g : Nat) (hx : a.eval x = .pointer (some ⟨g, 0, none⟩)) (t : TypeId) (cs : Array Value) (fr : Nat × Nat) (d : TypeDesc) (hg : w.heap[g]? = some (.cells cs t fr))
    (hu : P.underlying ty = some d) (hd : (match d with | .struct _ | .array _ _ => true | _ => false) = true) (hi : (P.info? ty).map (·.size) = some cs.size) : (execOp a.eval o).run P w = .ok (.value (.agg cs)) w := by
  unfold execOp
  simp only [ho, hx, Instr.loadAt, Instr.sureAddr, Sem.run_bind, Sem.run_pure, Result.andThen_ok, run_loadVar_row w g t ty cs fr d hg hu hd hi]
theorem still_tail {P : Program} {id : Nat} {Q : Exit → Act → World → Prop} {a : Act} {w : World} {l : List Oper} (n : Nat) (hm : P.follows .mixedOrders = true) (hB : Region.lexTailB .any l.toArray n = true)
    (h : wpStill P l.toArray w.drew (fun a' => wpList P l.toArray Q (l.drop n) a' w.drew) (l.take n) a) : (Code.region id l.toArray true).wp P Q a w := wp_region_still_tail n hm hB h
def upd (pg : Int → Array Value) (i : Int) (c : Array Value) : Int → Array Value := fun j => if j = i then c else pg j
theorem lit_ne {i j : Int} (h : j ≠ i) : (Lit.int .i64 j) ≠ (Lit.int .i64 i) := fun e => h (by injection e)
theorem MapIs.stored {w w' : World} {bm n : Nat} {pg : Int → Array Value} {D : DataW (Array Value)} {i : Int} {c : Array Value} (hD : w.ownsMap Try.prog 3 tok bm n D)
    (h2 : ∀ i, In64 i → D.atKey (.int .i64 i) (.held Zp) = .held (pg i)) (h3 : ∀ i, In64 i → (Maps.has D (.int .i64 i) = true ↔ pg i ≠ Zp)) (h4 : ∀ i, IsPage (pg i)) (hc : IsPage c) (hz : c ≠ Zp)
    (h : w'.ownsMap Try.prog 3 tok bm (n + 1) (D.put (.int .i64 i) (.held c))) : MapIs w' bm (n + 1) (upd pg i c) := by
  have hm : Maps.IsMap D := by obtain ⟨es, clock, _, _, _, rfl⟩ := hD; exact ⟨_, rfl⟩
  refine ⟨_, h, fun j hj => ?_, fun j hj => ?_, fun j => ?_⟩
  · by_cases e : j = i
    · subst e
      rw [Maps.atKey_put_same hm (by trivial)]
      simp [upd]
    · rw [Maps.atKey_put_other (lit_ne e), h2 j hj]
      simp [upd, e]
  · by_cases e : j = i
    · subst e
      rw [Maps.has_put_same hm (by trivial)]
      simp [upd, hz]
    · rw [Maps.has_put_other (lit_ne e), h3 j hj]
      simp [upd, e]
  · unfold upd
    split
    · exact hc
    · exact h4 j
theorem MapIs.dropped {w' : World} {bm n : Nat} {pg : Int → Array Value} {D : DataW (Array Value)} {i : Int}
    (h2 : ∀ i, In64 i → D.atKey (.int .i64 i) (.held Zp) = .held (pg i)) (h3 : ∀ i, In64 i → (Maps.has D (.int .i64 i) = true ↔ pg i ≠ Zp)) (h4 : ∀ i, IsPage (pg i))
    (h : w'.ownsMap Try.prog 3 tok bm n (D.del (.int .i64 i))) : MapIs w' bm (n + 1) (upd pg i Zp) := by
  refine ⟨_, h.mono (Nat.le_succ n), fun j hj => ?_, fun j hj => ?_, fun j => ?_⟩
  · by_cases e : j = i
    · subst e
      rw [Maps.atKey_del_same]
      simp [upd]
    · rw [Maps.atKey_del_other (lit_ne e), h2 j hj]
      simp [upd, e]
  · by_cases e : j = i
    · subst e
      rw [Maps.has_del_same]
      simp [upd]
    · rw [Maps.has_del_other (lit_ne e), h3 j hj]
      simp [upd, e]
  · unfold upd
    split
    · exact zp_page
    · exact h4 j
theorem grown_drew (w : World) (r : Option Nat) : w.grownBy w.drew r := ⟨rfl, rfl, rfl, Nat.le_refl _, fun _ _ _ => rfl⟩
set_option maxRecDepth 100000 in
theorem put_any (b bm n : Nat) (i : Int) (c : Array Value) (pg : Int → Array Value) (w : World) (hc1 : w.cell? ⟨b, 1, none⟩ = some (.map (some bm))) (hm : MapIs w bm n pg) (hn : n < maxLen) (hi : In64 i) (hc : IsPage c) :
    Calls Try.prog 38 #[.pointer (some ⟨b, 0, none⟩), .int .i64 i, .agg c] w fun e w' => e = .returned (.tuple #[]) ∧ MapIs w' bm (n + 1) (upd pg i c) ∧ w.grownBy w' (some bm) := by
  obtain ⟨D, hD, h2, h3, h4⟩ := hm
  obtain ⟨r, hr, hrz⟩ := run_page_eq hc zp_page (w.alloc (.cells c 82))
  have hi82 : (Try.prog.info? 82).map (·.size) = some c.size := by rw [hc.1]; exact size82
  have hg82 : (w.alloc (.cells c 82)).heap[w.heap.size]? = some (.cells c 82 (0, 0)) := heap_alloc_new w _
  have HC := Lib.hid hc
  have HR := Lib.hid hr
  have HZ := Lib.hid hrz
  have HD := Lib.hid hD
  have H2 := Lib.hid h2
  have H3 := Lib.hid h3
  have H4 := Lib.hid h4
  have HI := Lib.hid (Maps.keyOf_int_mk (P := Try.prog) Try.underlying3 hi)
  have HS := Lib.hid hi82
  have HG := Lib.hid hg82
  clear hc hr hrz hD h2 h3 h4 hi hi82 hg82
  have hown : ((w.alloc (.cells c 82)).drew).ownsMap Try.prog 3 tok bm n D := (HD.out.alloc (.cells c 82)).drew
  have HO := Lib.hid hown
  clear hown
  have hlt := World.block_lt_of_cell? w _ hc1
  have k1 : (w.alloc (.cells c 82)).cell? ⟨b, 1, none⟩ = some (.map (some bm)) := ((World.grownBy_alloc w _ none).cell hc1 (by simp))
  have k2 : (w.alloc (.cells c 82)).drew.cell? ⟨b, 1, none⟩ = some (.map (some bm)) := k1
  cases r
  · have hz : c ≠ Zp := fun e => by have := HZ.out.2 e; cases this
    have HN := Lib.hid hz
    clear hz
    go_enter Try.func38, Try.ntmps38
    go_wp2_with (first
      | (refine wpList_load_row rfl 82 (.tmp 5) rfl w.heap.size rfl 82 c (0, 0) _ HG.out Try.underlying82 rfl HS.out ?_)
      | (refine wpList_value rfl (exec_zero82 rfl _) ?_)
      | (refine wpList_value rfl (exec_eq82 (x := .tmp 6) (y := .tmp 7) rfl rfl rfl HR.out) ?_))
    refine still_tail 6 (by kernel_rfl) (by kernel_rfl) ?_
    simp only [List.take_succ_cons, List.take_zero, List.drop_succ_cons, List.drop_zero]
    repeat (first | (refine wpStill_value rfl (exec_load_row 82 (.tmp 5) rfl w.heap.size rfl 82 c (0, 0) _ HG.out Try.underlying82 rfl HS.out) ?_) | still_step)
    refine wpStill_nil ?_
    refine wpList_mapUpdate_own _ rfl _ _ _ 65 rfl 3 82 law3 Try.underlying65 tok bm n D rfl HO.out hn _ _ _ rfl rfl HI.out (.held c) [] rfl ?_
    intro w1 hown1 hgrow1
    have HO1 := Lib.hid hown1
    have HG1 := Lib.hid hgrow1
    clear hown1 hgrow1
    go_wp2
    go_end0
    exact ⟨rfl, MapIs.stored HO.out H2.out H3.out H4.out HC.out HN.out HO1.out, ((World.grownBy_alloc w _ _).trans (grown_drew _ _)).trans HG1.out⟩
  · obtain rfl : c = Zp := HZ.out.1 rfl
    go_enter Try.func38, Try.ntmps38
    go_wp2_with (first
      | (refine wpList_load_row rfl 82 (.tmp 5) rfl w.heap.size rfl 82 Zp (0, 0) _ HG.out Try.underlying82 rfl HS.out ?_)
      | (refine wpList_value rfl (exec_zero82 rfl _) ?_)
      | (refine wpList_value rfl (exec_eq82 (x := .tmp 6) (y := .tmp 7) rfl rfl rfl HR.out) ?_)
      | (at_delete; refine wpList_delete_own _ rfl _ _ 65 3 rfl 82 law3 Try.underlying65 tok bm n D rfl (HD.out.alloc _) _ _ rfl HI.out ?_; intro w1 hown1 hturn1; have HO1 := Lib.hid hown1; have HT1 := Lib.hid hturn1; clear hown1 hturn1))
    exact bodyPost_ret (v := .tuple #[]) (results_none rfl _ _ w1) rfl ⟨rfl, MapIs.dropped H2.out H3.out H4.out HO1.out, (World.grownBy_alloc w _ _).trans HT1.out.grown⟩
end Go.Proofs.Ytjfbgihjgnbeeaa.Pl
