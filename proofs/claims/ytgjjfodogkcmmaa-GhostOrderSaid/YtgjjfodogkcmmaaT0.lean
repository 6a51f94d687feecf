/- ghost: maps of the call's own, by what they hold. -/
import Derived.Test.YtgjjfodogkcmmaaS1
import Derived.StillTailTactics
import Derived.Laws.Rows
import Derived.Laws.StructEq
import Derived.ChangeKeysEq
import Derived.Maps.OwnSet
import Derived.Maps.AppendAt
import Derived.Maps.RangeWalk
namespace Go.Proofs.Ytgjjfodogkcmmaa.Gh
open Go Go.RowKit Ytgjjfodogkcmmaa.So
theorem info_parts {P : Program} {t : TypeId} {z : Value} {s b : Nat} (h : (P.info? t).map (fun i => (i.zero, i.size, i.bytes)) = some (some z, s, b)) : ∃ i, P.info? t = some i ∧ i.zero = some z ∧ i.size = s ∧ i.bytes = b := by
  obtain ⟨i, h1, h2⟩ := Option.map_eq_some_iff.1 h
  simp only [Prod.mk.injEq] at h2
  exact ⟨i, h1, h2.1, h2.2.1, h2.2.2⟩
/-- How a map's element reads here: as itself. -/
def tok : Value → Option (DataW Value × List MemPlace) := fun v => some (.held v, [])
theorem tok_inv {v c : Value} {ps : List MemPlace} (h : tok v = some (.held c, ps)) : v = c := by
  simp [tok] at h; exact h.1
def In32 (i : Int) : Prop := (Lit.int .u32 i).wf = true
theorem in32 {i : Int} (h0 : 0 ≤ i) (h1 : i ≤ 4294967295) : In32 i := by
  simp [In32, Lit.wf, show IntKind.u32.min = 0 from rfl, show IntKind.u32.max = 4294967295 from rfl]; omega
theorem law24 : Maps.Keyed Try.prog 24 := Maps.int_keyed Try.underlying24
theorem key24 {i : Int} (h : In32 i) : keyOf Try.prog 24 (.int .u32 i) = some (.int .u32 i) := Maps.keyOf_int_mk Try.underlying24 h
/-- A map in block b, of at most n entries: at each key what V says. -/
def MapV (zd : Value) (w : World) (b n : Nat) (V : Int → Option Value) : Prop :=
  ∃ D, w.ownsMap Try.prog 24 tok b n D ∧ ∀ k, In32 k → D.atKey (.int .u32 k) (.held zd) = .held ((V k).getD zd) ∧ Maps.has D (.int .u32 k) = (V k).isSome
section
variable {zd : Value} {w w' : World} {b n : Nat} {V : Int → Option Value}
theorem MapV.kept {row : Option Nat} (h : MapV zd w b n V) (hg : w.grownBy w' row) (hne : some b ≠ row) : MapV zd w' b n V := by
  obtain ⟨D, h1, h2⟩ := h
  exact ⟨D, h1.kept hg hne, h2⟩
theorem MapV.lt (h : MapV zd w b n V) : b < w.heap.size := by
  obtain ⟨D, h1, _⟩ := h
  exact h1.lt
theorem MapV.mono {m : Nat} (h : MapV zd w b n V) (hn : n ≤ m) : MapV zd w b m V := by
  obtain ⟨D, h1, h2⟩ := h
  exact ⟨D, h1.mono hn, h2⟩
theorem MapV.on {G : Nat → Prop} (h : MapV zd w b n V) (ht : Turned G w w') (hG : ¬ G b) : MapV zd w' b n V := by
  obtain ⟨D, ⟨es, clock, h1, h2, h3, h4⟩, h5⟩ := h
  exact ⟨D, ⟨es, clock, (ht.block b (Array.getElem?_eq_some_iff.1 h1).1 hG).trans h1, h2, h3, h4⟩, h5⟩
theorem MapV.made (zd : Value) (w : World) : MapV zd (w.alloc (.map #[] 0)) w.heap.size 0 (fun _ => none) :=
  ⟨.map [], World.ownsMap_made _ _ _ _, fun _ _ => ⟨rfl, rfl⟩⟩
theorem MapV.look {T E : TypeId} (h : MapV zd w b n V) (hT : Try.prog.underlying T = some (.map 24 E)) (hz : (zeroValue E).run Try.prog w = .ok zd w) {i : Int} (hi : In32 i) : (Instr.lookup T (.map (some b)) (.int .u32 i) false).run Try.prog w = .ok ((V i).getD zd) w := by
  obtain ⟨D, h1, h2⟩ := h
  obtain ⟨v, ps, hrun, hv⟩ := h1.lookup law24 hT hz (zd := .held zd) (zp := []) rfl (key24 hi)
  rw [(h2 i hi).1] at hv
  rw [hrun, tok_inv hv]
end
def upd (V : Int → Option Value) (i : Int) (c : Option Value) : Int → Option Value := fun j => if j = i then c else V j
theorem lit_ne {i j : Int} (h : j ≠ i) : (Lit.int .u32 j) ≠ (Lit.int .u32 i) := fun e => h (by injection e)
theorem own_isMap {w : World} {b n : Nat} {D : DataW Value} (hD : w.ownsMap Try.prog 24 tok b n D) : Maps.IsMap D := by
  obtain ⟨es, clock, _, _, _, rfl⟩ := hD; exact ⟨_, rfl⟩
theorem MapV.stored {zd : Value} {w w' : World} {b n : Nat} {V : Int → Option Value} {D : DataW Value} {i : Int} {c : Value} (hD : w.ownsMap Try.prog 24 tok b n D)
    (h2 : ∀ k, In32 k → D.atKey (.int .u32 k) (.held zd) = .held ((V k).getD zd) ∧ Maps.has D (.int .u32 k) = (V k).isSome)
    (h : w'.ownsMap Try.prog 24 tok b (n + 1) (D.put (.int .u32 i) (.held c))) : MapV zd w' b (n + 1) (upd V i (some c)) := by
  have hm := own_isMap hD
  refine ⟨_, h, fun j hj => ?_⟩
  by_cases e : j = i
  · subst e
    rw [Maps.atKey_put_same hm (by trivial)]
    refine ⟨by simp [upd], ?_⟩
    rw [Maps.has_put_same hm (by trivial)]
    simp [upd]
  · rw [Maps.atKey_put_other (lit_ne e)]
    refine ⟨by simp [upd, e, (h2 j hj).1], ?_⟩
    have : Maps.has (D.put (.int .u32 i) (.held c)) (.int .u32 j) = Maps.has D (.int .u32 j) := by rw [Maps.has_put_other (lit_ne e)]
    rw [this, (h2 j hj).2]; simp [upd, e]
theorem MapV.dropped {zd : Value} {w' : World} {b n : Nat} {V : Int → Option Value} {D : DataW Value} {i : Int}
    (h2 : ∀ k, In32 k → D.atKey (.int .u32 k) (.held zd) = .held ((V k).getD zd) ∧ Maps.has D (.int .u32 k) = (V k).isSome)
    (h : w'.ownsMap Try.prog 24 tok b n (D.del (.int .u32 i))) : MapV zd w' b n (upd V i none) := by
  refine ⟨_, h, fun j hj => ?_⟩
  by_cases e : j = i
  · subst e
    rw [Maps.atKey_del_same]
    refine ⟨by simp [upd], ?_⟩
    rw [Maps.has_del_same]
    simp [upd]
  · rw [Maps.atKey_del_other (lit_ne e)]
    refine ⟨by simp [upd, e, (h2 j hj).1], ?_⟩
    have : Maps.has (D.del (.int .u32 i)) (.int .u32 j) = Maps.has D (.int .u32 j) := by rw [Maps.has_del_other (lit_ne e)]
    rw [this, (h2 j hj).2]; simp [upd, e]
theorem zero3 (w : World) : (zeroValue 3).run Try.prog w = .ok (.int .i64 0) w := by kernel_rfl
theorem zero37 (w : World) : (zeroValue 37).run Try.prog w = .ok (.slice none 0 0) w := by kernel_rfl
theorem exec_look80 {a : Act} {o : Oper} {x y : Operand} (ho : o.op = .lookup 80 x y false) {b n : Nat} {V : Int → Option Value} {i : Int} {w : World} (hx : a.eval x = .map (some b)) (hy : a.eval y = .int .u32 i) (hm : MapV (.int .i64 0) w b n V) (hi : In32 i) :
    (execOp a.eval o).run Try.prog w = .ok (.value ((V i).getD (.int .i64 0))) w := by
  simp [execOp, ho, hx, hy, hm.look Try.underlying80 (zero3 w) hi, Result.andThen]
theorem exec_look79 {a : Act} {o : Oper} {x y : Operand} (ho : o.op = .lookup 79 x y false) {b n : Nat} {V : Int → Option Value} {i : Int} {w : World} (hx : a.eval x = .map (some b)) (hy : a.eval y = .int .u32 i) (hm : MapV (.slice none 0 0) w b n V) (hi : In32 i) :
    (execOp a.eval o).run Try.prog w = .ok (.value ((V i).getD (.slice none 0 0))) w := by
  simp [execOp, ho, hx, hy, hm.look Try.underlying79 (zero37 w) hi, Result.andThen]
theorem wpList_value {P : Program} {ops : Array Oper} {rest : List Oper} {o : Oper} {a : Act} {w : World} {Q : Exit → Act → World → Prop} {v : Value} (hg : o.guard = none)
    (hrun : (execOp a.eval o).run P w = .ok (.value v) w) (h : wpList P ops Q rest (a.put o.dst v) w) : wpList P ops Q (o :: rest) a w :=
  wpList_plain hg fun K hK => by
    unfold Oper.wp
    rw [hrun]
    simp [go_sem]
    exact hK _ _ h
theorem wpStill_value {P : Program} {ops : Array Oper} {w : World} {Q : Act → Prop} {a : Act} {o : Oper} {rest : List Oper} {v : Value} (hg : o.guard = none)
    (hrun : (execOp a.eval o).run P w = .ok (.value v) w) (h : wpStill P ops w Q rest (a.put o.dst v)) : wpStill P ops w Q (o :: rest) a :=
  wpStill_step fun K hK => by
    simp only [Region.wanted, hg, if_true]
    unfold Oper.still
    rw [hrun]
    exact ⟨rfl, hK _ h⟩
theorem still_tail {P : Program} {id : Nat} {Q : Exit → Act → World → Prop} {a : Act} {w : World} {l : List Oper} (n : Nat) (hm : P.follows .mixedOrders = true) (hB : Region.lexTailB .any l.toArray n = true)
    (h : wpStill P l.toArray w.drew (fun a' => wpList P l.toArray Q (l.drop n) a' w.drew) (l.take n) a) : (Code.region id l.toArray true).wp P Q a w := wp_region_still_tail n hm hB h
end Go.Proofs.Ytgjjfodogkcmmaa.Gh
