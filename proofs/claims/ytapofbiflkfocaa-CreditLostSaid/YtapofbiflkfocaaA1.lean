/- credit: what turns; maps of the call's own, by what they hold. -/
import Derived.Test.YtapofbiflkfocaaProg
import Derived.Test.YtapofbiflkfocaaChecked
import Derived.WalkKit
import Derived.BigRegion
import Derived.BigQuiet
import Derived.Lib.Hide
import Derived.Lib.OwnBridge
import Derived.Deep.AppendLies
import Derived.Deep.RegionLaw
import Derived.Deep.RegionHeld3
import Derived.OwnWalk
import Derived.IntWalk
import Derived.Laws.CopyOwn
import Derived.Deep.LoopGhost
import Derived.Shelf.Abstract
import Derived.Laws.CopyRow
import Derived.Lib.SliceRun
import Derived.Lib.Overlaps
import Derived.Deep.CutBlock
import Derived.Deep.DeepCutAuto
import Derived.Deep.RegionWith
import Derived.StillTailTactics
import Derived.Laws.Rows
import Derived.Laws.StructEq
import Derived.ChangeKeysEq
import Derived.Maps.OwnSet
import Derived.Maps.AppendAt
import Derived.Maps.RangeWalk
import Derived.DeepKeys4
import Derived.Laws.AppendOwnNone
namespace Go.Proofs.Ytapofbiflkfocaa.Cr
open Go Go.RowKit
/-- Of what was there the blocks of G alone have turned. -/
structure Turned (G : Nat → Prop) (w w' : World) : Prop where
  os : w'.os = w.os
  tape : w'.tape = w.tape
  output : w'.output = w.output
  size : w.heap.size ≤ w'.heap.size
  block : ∀ k, k < w.heap.size → ¬ G k → w'.heap[k]? = w.heap[k]?
theorem Turned.refl (G : Nat → Prop) (w : World) : Turned G w w := ⟨rfl, rfl, rfl, Nat.le_refl _, fun _ _ _ => rfl⟩
theorem Turned.of_grown {w w' : World} {r : Option Nat} (h : w.grownBy w' r) {G : Nat → Prop} (hr : ∀ k, r = some k → G k) : Turned G w w' :=
  ⟨h.os, h.tape, h.output, h.size, fun k hk hG => h.block k hk (fun e => hG (hr k e.symm))⟩
theorem Turned.trans {G H : Nat → Prop} {a b c : World} (h : Turned G a b) (k : Turned H b c) (hH : ∀ i, H i → G i ∨ a.heap.size ≤ i) : Turned G a c :=
  ⟨k.os.trans h.os, k.tape.trans h.tape, k.output.trans h.output, Nat.le_trans h.size k.size, fun i hi hG => (k.block i (Nat.lt_of_lt_of_le hi h.size) (fun e => (hH i e).elim hG (fun h' => by omega))).trans (h.block i hi hG)⟩
theorem Turned.then {G : Nat → Prop} {a b c : World} (h : Turned G a b) (k : Turned G b c) : Turned G a c := h.trans k (fun _ => .inl)
theorem Turned.mono {G H : Nat → Prop} {a b : World} (h : Turned G a b) (hH : ∀ i, G i → H i) : Turned H a b := ⟨h.os, h.tape, h.output, h.size, fun i hi hG => h.block i hi (fun e => hG (hH i e))⟩
theorem Turned.below {G : Nat → Prop} {w w' : World} (h : Turned G w w') {B : Nat} (hB : B ≤ w.heap.size) (hG : ∀ k, G k → B ≤ k) : Below B w w' :=
  ⟨h.os, h.tape, h.output, h.size, fun k hk => h.block k (by omega) (fun e => by have := hG k e; omega)⟩
theorem below_turned {w w' : World} {G : Nat → Prop} {B : Nat} (h : Below B w w') (hG : ∀ k, k < w.heap.size → B ≤ k → G k) : Turned G w w' :=
  ⟨h.os, h.tape, h.output, h.size, fun k hk hn => h.block k (Nat.lt_of_not_le fun e => hn (hG k hk e))⟩
theorem below_any {w w' : World} {G : Nat → Prop} (h : Below w.heap.size w w') : Turned G w w' := below_turned h (fun k h1 h2 => by omega)
theorem turned_drewN (G : Nat → Prop) (w : World) (n : Nat) : Turned G w (w.drewN n) := ⟨rfl, rfl, rfl, Nat.le_refl _, fun _ _ _ => rfl⟩
theorem turned_drew (G : Nat → Prop) (w : World) : Turned G w w.drew := ⟨rfl, rfl, rfl, Nat.le_refl _, fun _ _ _ => rfl⟩
theorem grown_set (w : World) (b i : Nat) (v : Value) : w.grownBy (w.setCell ⟨b, i, none⟩ v) (some b) :=
  ⟨rfl, rfl, rfl, by simp, fun k _ hk => by
    show (w.heap.modify b _)[k]? = _
    rw [Array.getElem?_modify, if_neg (fun e => hk (by rw [e]))]⟩
theorem turned_set (w : World) (b i : Nat) (v : Value) : Turned (fun k => k = b) w (w.setCell ⟨b, i, none⟩ v) := .of_grown (grown_set w b i v) (fun k e => by injection e with e; exact e.symm)
theorem own_on {W W' : World} {B e size k : Nat} {v : Value} {xs : List Value} (h : W.ownsRow B e size v k xs) (hs : ∀ g, v.ownBlock = some g → W'.heap[g]? = W.heap[g]?) : W'.ownsRow B e size v k xs := by
  refine ⟨h.1, ?_⟩
  rcases h.2 with h0 | ⟨g, cap, cur, e, e1, e2, e3⟩
  · exact .inl h0
  · exact .inr ⟨g, cap, cur, e, e1, (hs g (by rw [e]; rfl)).trans e2, e3⟩
theorem info_parts {P : Program} {t : TypeId} {z : Value} {s b : Nat} (h : (P.info? t).map (fun i => (i.zero, i.size, i.bytes)) = some (some z, s, b)) : ∃ i, P.info? t = some i ∧ i.zero = some z ∧ i.size = s ∧ i.bytes = b := by
  obtain ⟨i, h1, h2⟩ := Option.map_eq_some_iff.1 h
  simp only [Prod.mk.injEq] at h2
  exact ⟨i, h1, h2.1, h2.2.1, h2.2.2⟩
/-- How a map's element reads here: as itself. -/
def tok : Value → Option (DataW Value × List MemPlace) := fun v => some (.held v, [])
theorem tok_inv {v c : Value} {ps : List MemPlace} (h : tok v = some (.held c, ps)) : v = c := by
  simp [tok] at h; exact h.1
/-- A message's name: node, number. -/
abbrev TK := Int × Int
def kv (t : TK) : Value := .agg #[.int .u8 t.1, .int .u64 t.2]
theorem kv_inj {t s : TK} (h : kv t = kv s) : t = s := by
  simp [kv] at h
  exact Prod.ext h.1 h.2
def InK (t : TK) : Prop := (0 ≤ t.1 ∧ t.1 ≤ 255) ∧ (0 ≤ t.2 ∧ t.2 ≤ 18446744073709551615)
theorem laidOut : laidOutB Try.prog = true := by kernel_rfl
theorem row47 : (47 : TypeId) < Try.prog.types.size := of_decide_eq_true (by kernel_rfl)
theorem wide47 : (match Try.prog.underlying 47 with | some (.array _ _) | some (.struct _) => true | _ => false) = true := by kernel_rfl
set_option maxRecDepth 100000 in
theorem law47' : WideMaps.KeyLaw Try.prog 47 := deep_law_laid laidOut (m := 2) (by omega) row47 (by kernel_rfl) wide47
theorem law47 : Maps.Keyed Try.prog 47 := .of_law law47'
theorem und47 : Try.prog.underlying 47 = some (.struct (Try.prog.fieldsOf 47)) := by kernel_rfl
theorem fields47 : (Try.prog.fieldsOf 47).toList.map (fun f => (f.name == "_", f.type, f.offset)) = [(false, 5, 0), (false, 22, 1)] := by kernel_rfl
set_option maxRecDepth 100000 in
theorem lits47 (t : TK) (h : InK t) : ∃ l, keyOf Try.prog 47 (kv t) = some l := by
  obtain ⟨⟨a0, a1⟩, ⟨b0, b1⟩⟩ := h
  obtain ⟨f, g, hL, h1, h2⟩ : ∃ f g, (Try.prog.fieldsOf 47).toList = [f, g] ∧ (f.name == "_", f.type, f.offset) = (false, 5, 0) ∧ (g.name == "_", g.type, g.offset) = (false, 22, 1) := by
    have h := fields47
    generalize (Try.prog.fieldsOf 47).toList = l at h
    have hl : l.length = 2 := by simpa using congrArg List.length h
    obtain ⟨f, l, rfl⟩ := List.exists_cons_of_length_pos (by omega : 0 < l.length)
    obtain ⟨g, l, rfl⟩ := List.exists_cons_of_length_pos (by simp at hl; omega : 0 < l.length)
    obtain rfl : l = [] := List.eq_nil_of_length_eq_zero (by simp at hl; exact List.length_eq_zero_iff.2 hl)
    simp only [List.map_cons, List.map_nil, List.cons.injEq, and_true] at h
    exact ⟨f, g, rfl, h.1, h.2⟩
  simp only [Prod.mk.injEq] at h1 h2
  have hall : (Try.prog.fieldsOf 47).all (fun f => f.name != "_") = true := by kernel_rfl
  have hk : Try.prog.keyType 47 = true := by kernel_rfl
  have hc : Try.prog.cellsOf 47 = 2 := by kernel_rfl
  have hc5 : Try.prog.cellsOf 5 = 1 := by kernel_rfl
  have hc22 : Try.prog.cellsOf 22 = 1 := by kernel_rfl
  have hf : (kv t).formed Try.prog 47 = true := by
    simp [Value.formed, hc, kv]
  obtain ⟨D, hD⟩ : ∃ D, Try.prog.types.size = D + 1 := ⟨Try.prog.types.size - 1, (Nat.sub_add_cancel (Nat.lt_of_le_of_lt (Nat.zero_le _) row47)).symm⟩
  unfold keyOf
  rw [und47]
  simp only [hk, hf, Bool.and_self, if_true]
  rw [hD]
  unfold Program.keyLits
  rw [und47]
  simp only [kv, Value.cells, List.length_cons, List.length_nil, hc, hall]
  rw [hL]
  simp [Program.keyLits, h1.2.1, h1.2.2, h2.2.1, h2.2.2, hc5, hc22, Try.underlying5, Try.underlying22, Lit.wf, show IntKind.u64.min = 0 from rfl, show IntKind.u64.max = 18446744073709551615 from rfl, show IntKind.u8.min = 0 from rfl, show IntKind.u8.max = 255 from rfl, a0, a1, b0, b1]
/-- What a transaction's name reads as. -/
noncomputable def KL (t : TK) : Lit := (keyOf Try.prog 47 (kv t)).getD (.bool false)
theorem key47 {t : TK} (h : InK t) : keyOf Try.prog 47 (kv t) = some (KL t) := by
  obtain ⟨l, hl⟩ := lits47 t h
  simp [KL, hl]
set_option maxRecDepth 100000 in
theorem KL_inj {t s : TK} (ht : InK t) (hs : InK s) (h : KL t = KL s) : t = s := kv_inj (law47.inj (key47 ht) (by rw [h]; exact key47 hs))
set_option maxRecDepth 100000 in
theorem KL_key {t : TK} (h : InK t) : WideAt.IsKeyLit (KL t) := law47.key (key47 h)
/-- A map in block b, of at most n entries: at each key what V says. -/
def MapV (zd : Value) (w : World) (b n : Nat) (V : TK → Option Value) : Prop :=
  ∃ D, w.ownsMap Try.prog 47 tok b n D ∧ ∀ k, InK k → D.atKey (KL k) (.held zd) = .held ((V k).getD zd) ∧ Maps.has D (KL k) = (V k).isSome
section
variable {zd : Value} {w w' : World} {b n : Nat} {V : TK → Option Value}
theorem MapV.kept {row : Option Nat} (h : MapV zd w b n V) (hg : w.grownBy w' row) (hne : some b ≠ row) : MapV zd w' b n V := by
  obtain ⟨D, h1, h2⟩ := h
  exact ⟨D, h1.kept hg hne, h2⟩
theorem MapV.lt (h : MapV zd w b n V) : b < w.heap.size := by
  obtain ⟨D, h1, _⟩ := h
  exact h1.lt
theorem MapV.mono {m : Nat} (h : MapV zd w b n V) (hn : n ≤ m) : MapV zd w b m V := by
  obtain ⟨D, h1, h2⟩ := h
  exact ⟨D, h1.mono hn, h2⟩
theorem MapV.on {G : Nat → Prop} (h : MapV zd w b n V) (ht : Turned G w w') (hG : ¬ G b) : MapV zd w' b n V := by
  obtain ⟨D, ⟨es, clock, h1, h2, h3, h4⟩, h5⟩ := h
  exact ⟨D, ⟨es, clock, (ht.block b (Array.getElem?_eq_some_iff.1 h1).1 hG).trans h1, h2, h3, h4⟩, h5⟩
theorem MapV.made (zd : Value) (w : World) : MapV zd (w.alloc (.map #[] 0)) w.heap.size 0 (fun _ => none) :=
  ⟨.map [], World.ownsMap_made _ _ _ _, fun _ _ => ⟨rfl, rfl⟩⟩
set_option maxRecDepth 100000 in
theorem MapV.look {T E : TypeId} (h : MapV zd w b n V) (hT : Try.prog.underlying T = some (.map 47 E)) (hz : (zeroValue E).run Try.prog w = .ok zd w) {t : TK} (hi : InK t) : (Instr.lookup T (.map (some b)) (kv t) false).run Try.prog w = .ok ((V t).getD zd) w := by
  obtain ⟨D, h1, h2⟩ := h
  obtain ⟨v, ps, hrun, hv⟩ := h1.lookup law47 hT hz (zd := .held zd) (zp := []) rfl (key47 hi)
  rw [(h2 t hi).1] at hv
  rw [hrun, tok_inv hv]
end
def upd (V : TK → Option Value) (i : TK) (c : Option Value) : TK → Option Value := fun j => if j = i then c else V j
theorem own_isMap {w : World} {b n : Nat} {D : DataW Value} (hD : w.ownsMap Try.prog 47 tok b n D) : Maps.IsMap D := by
  obtain ⟨es, clock, _, _, _, rfl⟩ := hD; exact ⟨_, rfl⟩
set_option maxRecDepth 100000 in
theorem MapV.stored {zd : Value} {w w' : World} {b n : Nat} {V : TK → Option Value} {D : DataW Value} {i : TK} {c : Value} (hi : InK i) (hD : w.ownsMap Try.prog 47 tok b n D)
    (h2 : ∀ k, InK k → D.atKey (KL k) (.held zd) = .held ((V k).getD zd) ∧ Maps.has D (KL k) = (V k).isSome)
    (h : w'.ownsMap Try.prog 47 tok b (n + 1) (D.put (KL i) (.held c))) : MapV zd w' b (n + 1) (upd V i (some c)) := by
  have hm := own_isMap hD
  refine ⟨_, h, fun j hj => ?_⟩
  by_cases e : j = i
  · subst e
    rw [Maps.atKey_put_same hm (KL_key hj)]
    refine ⟨by simp [upd], ?_⟩
    rw [Maps.has_put_same hm (KL_key hj)]
    simp [upd]
  · have ne : KL j ≠ KL i := fun e2 => e (KL_inj hj hi e2)
    rw [Maps.atKey_put_other ne]
    refine ⟨by simp [upd, e, (h2 j hj).1], ?_⟩
    have : Maps.has (D.put (KL i) (.held c)) (KL j) = Maps.has D (KL j) := by rw [Maps.has_put_other ne]
    rw [this, (h2 j hj).2]; simp [upd, e]
theorem zero48 (w : World) : (zeroValue 48).run Try.prog w = .ok (.agg #[]) w := by kernel_rfl
theorem zero4 (w : World) : (zeroValue 4).run Try.prog w = .ok (.bool false) w := by kernel_rfl
set_option maxRecDepth 100000 in
theorem MapV.look_ok {zd : Value} {w : World} {b n : Nat} {V : TK → Option Value} {T E : TypeId} (h : MapV zd w b n V) (hT : Try.prog.underlying T = some (.map 47 E)) (hz : (zeroValue E).run Try.prog w = .ok zd w) {t : TK} (hi : InK t) : (Instr.lookup T (.map (some b)) (kv t) true).run Try.prog w = .ok (.tuple #[(V t).getD zd, .bool (V t).isSome]) w := by
  obtain ⟨D, h1, h2⟩ := h
  obtain ⟨v, ps, hrun, hv⟩ := h1.look_ok law47 hT hz (zd := .held zd) (zp := []) rfl (key47 hi)
  rw [(h2 t hi).1] at hv
  rw [hrun, tok_inv hv, (h2 t hi).2]
theorem wpList_value {P : Program} {ops : Array Oper} {rest : List Oper} {o : Oper} {a : Act} {w : World} {Q : Exit → Act → World → Prop} {v : Value} (hg : o.guard = none)
    (hrun : (execOp a.eval o).run P w = .ok (.value v) w) (h : wpList P ops Q rest (a.put o.dst v) w) : wpList P ops Q (o :: rest) a w :=
  wpList_plain hg fun K hK => by
    unfold Oper.wp
    rw [hrun]
    simp [go_sem]
    exact hK _ _ h
theorem wpStill_value {P : Program} {ops : Array Oper} {w : World} {Q : Act → Prop} {a : Act} {o : Oper} {rest : List Oper} {v : Value} (hg : o.guard = none)
    (hrun : (execOp a.eval o).run P w = .ok (.value v) w) (h : wpStill P ops w Q rest (a.put o.dst v)) : wpStill P ops w Q (o :: rest) a :=
  wpStill_step fun K hK => by
    simp only [Region.wanted, hg, if_true]
    unfold Oper.still
    rw [hrun]
    exact ⟨rfl, hK _ h⟩
theorem still_tail {P : Program} {id : Nat} {Q : Exit → Act → World → Prop} {a : Act} {w : World} {l : List Oper} (n : Nat) (hm : P.follows .mixedOrders = true) (hB : Region.lexTailB .any l.toArray n = true)
    (h : wpStill P l.toArray w.drew (fun a' => wpList P l.toArray Q (l.drop n) a' w.drew) (l.take n) a) : (Code.region id l.toArray true).wp P Q a w := wp_region_still_tail n hm hB h
end Go.Proofs.Ytapofbiflkfocaa.Cr
