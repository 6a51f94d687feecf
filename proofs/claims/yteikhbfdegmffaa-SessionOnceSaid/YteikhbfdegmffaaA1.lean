/- session: what turns; answers by what they hold. -/
import Derived.Test.YteikhbfdegmffaaProg
import Derived.Test.YteikhbfdegmffaaChecked
import Derived.WalkKit
import Derived.BigRegion
import Derived.BigQuiet
import Derived.Lib.Hide
import Derived.Lib.OwnBridge
import Derived.Deep.AppendLies
import Derived.Deep.RegionLaw
import Derived.Deep.RegionHeld3
import Derived.OwnWalk
import Derived.IntWalk
import Derived.Laws.CopyOwn
import Derived.Deep.LoopGhost
import Derived.Shelf.Abstract
import Derived.Laws.CopyRow
import Derived.Lib.SliceRun
import Derived.Lib.Overlaps
import Derived.Deep.CutBlock
import Derived.Deep.DeepCutAuto
import Derived.Deep.RegionWith
import Derived.StillTailTactics
import Derived.Laws.Rows
import Derived.Laws.StructEq
import Derived.Laws.AppendOwnNone
import Derived.ChangeKeysEq
import Derived.Maps.OwnSet
import Derived.Maps.AppendAt
import Derived.Maps.RangeWalk
import Derived.DeepKeys4
namespace Go.Proofs.Yteikhbfdegmffaa.Se
open Go Go.RowKit
/-- Of what was there the blocks of G alone have turned. -/
structure Turned (G : Nat → Prop) (w w' : World) : Prop where
  os : w'.os = w.os
  tape : w'.tape = w.tape
  output : w'.output = w.output
  size : w.heap.size ≤ w'.heap.size
  block : ∀ k, k < w.heap.size → ¬ G k → w'.heap[k]? = w.heap[k]?
theorem Turned.refl (G : Nat → Prop) (w : World) : Turned G w w := ⟨rfl, rfl, rfl, Nat.le_refl _, fun _ _ _ => rfl⟩
theorem Turned.of_grown {w w' : World} {r : Option Nat} (h : w.grownBy w' r) {G : Nat → Prop} (hr : ∀ k, r = some k → G k) : Turned G w w' :=
  ⟨h.os, h.tape, h.output, h.size, fun k hk hG => h.block k hk (fun e => hG (hr k e.symm))⟩
theorem Turned.trans {G H : Nat → Prop} {a b c : World} (h : Turned G a b) (k : Turned H b c) (hH : ∀ i, H i → G i ∨ a.heap.size ≤ i) : Turned G a c :=
  ⟨k.os.trans h.os, k.tape.trans h.tape, k.output.trans h.output, Nat.le_trans h.size k.size, fun i hi hG => (k.block i (Nat.lt_of_lt_of_le hi h.size) (fun e => (hH i e).elim hG (fun h' => by omega))).trans (h.block i hi hG)⟩
theorem Turned.then {G : Nat → Prop} {a b c : World} (h : Turned G a b) (k : Turned G b c) : Turned G a c := h.trans k (fun _ => .inl)
theorem Turned.mono {G H : Nat → Prop} {a b : World} (h : Turned G a b) (hH : ∀ i, G i → H i) : Turned H a b := ⟨h.os, h.tape, h.output, h.size, fun i hi hG => h.block i hi (fun e => hG (hH i e))⟩
theorem Turned.below {G : Nat → Prop} {w w' : World} (h : Turned G w w') {B : Nat} (hB : B ≤ w.heap.size) (hG : ∀ k, G k → B ≤ k) : Below B w w' :=
  ⟨h.os, h.tape, h.output, h.size, fun k hk => h.block k (by omega) (fun e => by have := hG k e; omega)⟩
theorem below_turned {w w' : World} {G : Nat → Prop} {B : Nat} (h : Below B w w') (hG : ∀ k, k < w.heap.size → B ≤ k → G k) : Turned G w w' :=
  ⟨h.os, h.tape, h.output, h.size, fun k hk hn => h.block k (Nat.lt_of_not_le fun e => hn (hG k hk e))⟩
theorem below_any {w w' : World} {G : Nat → Prop} (h : Below w.heap.size w w') : Turned G w w' := below_turned h (fun k h1 h2 => by omega)
theorem turned_drewN (G : Nat → Prop) (w : World) (n : Nat) : Turned G w (w.drewN n) := ⟨rfl, rfl, rfl, Nat.le_refl _, fun _ _ _ => rfl⟩
theorem turned_drew (G : Nat → Prop) (w : World) : Turned G w w.drew := ⟨rfl, rfl, rfl, Nat.le_refl _, fun _ _ _ => rfl⟩
theorem grown_set (w : World) (b i : Nat) (v : Value) : w.grownBy (w.setCell ⟨b, i, none⟩ v) (some b) :=
  ⟨rfl, rfl, rfl, by simp, fun k _ hk => by
    show (w.heap.modify b _)[k]? = _
    rw [Array.getElem?_modify, if_neg (fun e => hk (by rw [e]))]⟩
theorem turned_set (w : World) (b i : Nat) (v : Value) : Turned (fun k => k = b) w (w.setCell ⟨b, i, none⟩ v) := .of_grown (grown_set w b i v) (fun k e => by injection e with e; exact e.symm)
theorem own_on {W W' : World} {B e size k : Nat} {v : Value} {xs : List Value} (h : W.ownsRow B e size v k xs) (hs : ∀ g, v.ownBlock = some g → W'.heap[g]? = W.heap[g]?) : W'.ownsRow B e size v k xs := by
  refine ⟨h.1, ?_⟩
  rcases h.2 with h0 | ⟨g, cap, cur, e, e1, e2, e3⟩
  · exact .inl h0
  · exact .inr ⟨g, cap, cur, e, e1, (hs g (by rw [e]; rfl)).trans e2, e3⟩
theorem info_parts {P : Program} {t : TypeId} {z : Value} {s b : Nat} (h : (P.info? t).map (fun i => (i.zero, i.size, i.bytes)) = some (some z, s, b)) : ∃ i, P.info? t = some i ∧ i.zero = some z ∧ i.size = s ∧ i.bytes = b := by
  obtain ⟨i, h1, h2⟩ := Option.map_eq_some_iff.1 h
  simp only [Prod.mk.injEq] at h2
  exact ⟨i, h1, h2.1, h2.2.1, h2.2.2⟩
theorem wpList_value {P : Program} {ops : Array Oper} {rest : List Oper} {o : Oper} {a : Act} {w : World} {Q : Exit → Act → World → Prop} {v : Value} (hg : o.guard = none)
    (hrun : (execOp a.eval o).run P w = .ok (.value v) w) (h : wpList P ops Q rest (a.put o.dst v) w) : wpList P ops Q (o :: rest) a w :=
  wpList_plain hg fun K hK => by
    unfold Oper.wp
    rw [hrun]
    simp [go_sem]
    exact hK _ _ h
theorem wpStill_value {P : Program} {ops : Array Oper} {w : World} {Q : Act → Prop} {a : Act} {o : Oper} {rest : List Oper} {v : Value} (hg : o.guard = none)
    (hrun : (execOp a.eval o).run P w = .ok (.value v) w) (h : wpStill P ops w Q rest (a.put o.dst v)) : wpStill P ops w Q (o :: rest) a :=
  wpStill_step fun K hK => by
    simp only [Region.wanted, hg, if_true]
    unfold Oper.still
    rw [hrun]
    exact ⟨rfl, hK _ h⟩
theorem still_tail {P : Program} {id : Nat} {Q : Exit → Act → World → Prop} {a : Act} {w : World} {l : List Oper} (n : Nat) (hm : P.follows .mixedOrders = true) (hB : Region.lexTailB .any l.toArray n = true)
    (h : wpStill P l.toArray w.drew (fun a' => wpList P l.toArray Q (l.drop n) a' w.drew) (l.take n) a) : (Code.region id l.toArray true).wp P Q a w := wp_region_still_tail n hm hB h
theorem set_block {w : World} {b i : Nat} {cs : Array Value} {t : TypeId} {v : Value} (h : w.heap[b]? = some (.cells cs t (0, 0))) : (w.setCell ⟨b, i, none⟩ v).heap[b]? = some (.cells (cs.setIfInBounds i v) t (0, 0)) := by
  show (w.heap.modify b _)[b]? = _
  rw [Array.getElem?_modify, if_pos rfl, h]
  rfl
theorem Below.drewN_refl (w : World) (n : Nat) : Below w.heap.size w (w.drewN n) := ⟨rfl, rfl, rfl, Nat.le_refl _, fun _ _ => rfl⟩
theorem cell1 {w : World} {p : Nat} {v : Value} {t : TypeId} (h : w.heap[p]? = some (.cells #[v] t (0, 0))) : w.cell? ⟨p, 0, none⟩ = some v := by simp [World.cell?, h]
/-- Values that stand from an address on. -/
def RdC (w : World) (ao : Option Addr) (cs : List Value) : Prop :=
  ∀ j u, cs[j]? = some u → ∃ b off, ao = some ⟨b, off, none⟩ ∧ b < w.heap.size ∧ w.cell? ⟨b, off + j, none⟩ = some u
theorem RdC.on {Z : Nat → Prop} {w w' : World} {ao : Option Addr} {cs : List Value} (h : RdC w ao cs) (ht : Turned Z w w') (hZ : ∀ b off, ao = some ⟨b, off, none⟩ → ¬ Z b) : RdC w' ao cs := fun j u hu => by
  obtain ⟨b, off, h1, h2, h3⟩ := h j u hu
  refine ⟨b, off, h1, Nat.lt_of_lt_of_le h2 ht.size, ?_⟩
  have hb := ht.block b h2 (hZ b off h1)
  simp only [World.cell?, hb] at h3 ⊢
  exact h3
theorem RdC.below {w w' : World} {ao : Option Addr} {cs : List Value} (h : RdC w ao cs) (hb : Below w.heap.size w w') : RdC w' ao cs := h.on (Z := fun _ => False) (below_any hb) (fun _ _ _ => id)
theorem RdC.flat {w : World} {ad : Addr} {cs : List Value} (h : RdC w (some ad) cs) : ∀ j u, cs[j]? = some u → w.cell? (ad.add j) = some u := fun j u hu => by
  obtain ⟨b, off, e, _, h3⟩ := h j u hu
  injection e with e
  subst e
  rw [Go.WideShapes.add_plain]
  exact h3
theorem RdC.nil (w : World) (ao : Option Addr) : RdC w ao [] := fun j u hu => by simp at hu
/-- The blocks of a row are none of those that were there. -/
def New (w : World) (ao : Option Addr) : Prop := ∀ b off, ao = some ⟨b, off, none⟩ → w.heap.size ≤ b
theorem rdc_own {w : World} {B e s n cap k : Nat} {ao : Option Addr} {cs : List Value} (h : w.ownsRow B e s (.slice ao n cap) k cs) (hk : k = 0 → cs = []) : RdC w ao cs ∧ ∀ b off, ao = some ⟨b, off, none⟩ → B ≤ b := by
  rcases h.2 with ⟨h0, h1⟩ | ⟨g, cap', cur, h0, h1, h2, h3, h4⟩
  · injection h0 with h0 _ _
    subst h0
    rw [hk h1]
    exact ⟨RdC.nil _ _, fun b off e => by cases e⟩
  · injection h0 with h0 _ _
    subst h0
    refine ⟨fun j u hu => ⟨g, 0, rfl, (Array.getElem?_eq_some_iff.1 h2).1, ?_⟩, fun b off e => ?_⟩
    · have := h.cells (g := g) rfl j u hu
      rwa [Go.WideShapes.add_plain] at this
    · injection e with e
      injection e with e1 _ _
      subst e1
      exact (World.ownsRow.lt h _ rfl).1
theorem grown_self (w : World) (b : Option Nat) : w.grownBy w b := ⟨rfl, rfl, rfl, Nat.le_refl _, fun _ _ _ => rfl⟩
/-- A list laid anew: appended to one that is empty. -/
theorem wpList_lay {w : World} {ops : Array Oper} {rest : List Oper} {o : Oper} {a : Act} {Q : Exit → Act → World → Prop} (hgd : o.guard = none) (s x : Operand) (t : TypeId)
    (ho : o.op = .call { callee := .builtin .append, args := #[s, x], argTypes := #[t, t] })
    (base : Nat) (e : TypeId) (i : TypeInfo) (z : Value) (sz by_ : Nat) (ht : Try.prog.underlying t = some (.slice e)) (hi : Try.prog.info? e = some i) (hz : i.zero = some z)
    (hsize : i.size = sz) (hby : i.bytes = by_) (hzs : z.cells.size = sz) (hsz : 0 < sz) (hb0 : 0 < by_)
    (vo : Option Addr) (hs : a.eval s = .slice vo 0 0) (hown : w.ownsRow base e sz (.slice vo 0 0) 0 [])
    (ao : Option Addr) (n c : Nat) (cs : List Value) (hx : a.eval x = .slice ao n c) (hno : ao = none → n = 0 ∧ c = 0) (hlen : cs.length = n * sz) (hr : RdC w ao cs) (hone : ∀ u ∈ cs, u.oneCell' = true)
    (hL : n * by_ ≤ 140737488355328) (hbase : base ≤ w.heap.size)
    (h : ∀ ao' c' w', (ao' = none → n = 0 ∧ c' = 0) → w'.ownsRow base e sz (.slice ao' n c') n cs → w.grownBy w' (Value.slice vo 0 0).ownBlock → wpList Try.prog ops Q rest (a.put o.dst (.slice ao' n c')) w') : wpList Try.prog ops Q (o :: rest) a w := by
  cases ao with
  | none =>
    obtain ⟨rfl, rfl⟩ := hno rfl
    obtain rfl : cs = [] := List.eq_nil_of_length_eq_zero (by rw [hlen]; omega)
    exact wpList_append_own_none hgd s x t ho base e i sz ht hi _ 0 [] hs hown hx (h vo 0 w (fun _ => ⟨rfl, rfl⟩) hown (grown_self w _))
  | some ad =>
    refine wpList_append_own w hgd s x t ho base e i z sz by_ ht hi hz hsize hby hzs hsz _ 0 [] hs hown ad n c cs hx hlen hr.flat hone (by unfold maxLen; have := Nat.le_mul_of_pos_right n hb0; omega) (by simpa using hL) hbase ?_
    intro v' w' h1 h2 h3
    rw [Nat.zero_add, List.nil_append] at h1
    have h1' := h1
    rcases h1.2 with ⟨h0, h4⟩ | ⟨g, cap, cur, h0, _⟩
    · subst h0; subst h4
      exact h none 0 w' (fun _ => ⟨rfl, rfl⟩) h1' h2
    · subst h0
      exact h _ cap w' (fun e => by cases e) h1' h2
/-- A value: its kind, its number, its text. -/
abbrev VT := Int × Int × ByteArray
def vc (t : VT) : List Value := [.int .u8 t.1, .int .i64 t.2.1, .string t.2.2]
def flV (V : List VT) : List Value := V.flatMap vc
def flN (L : List Int) : List Value := L.map (.int .u32 ·)
theorem flV_len (V : List VT) : (flV V).length = V.length * 3 := by
  induction V with
  | nil => rfl
  | cons t V ih =>
    have e : flV (t :: V) = vc t ++ flV V := rfl
    rw [e, List.length_append, ih]; simp [vc]; omega
theorem flV_at {V : List VT} {i : Nat} {t : VT} (h : V[i]? = some t) : ∀ j, j < 3 → (flV V)[i * 3 + j]? = (vc t)[j]? := by
  induction V generalizing i with
  | nil => simp at h
  | cons s V ih =>
    intro j hj
    have e : flV (s :: V) = vc s ++ flV V := rfl
    have el : (vc s).length = 3 := rfl
    match i with
    | 0 =>
      simp at h
      rw [e, h, List.getElem?_append_left (by rw [show (vc t).length = 3 from rfl]; omega)]
      simp
    | i + 1 =>
      simp at h
      rw [e, List.getElem?_append_right (by omega), ← ih h j hj, el]
      congr 1; omega
theorem flV_one (V : List VT) : ∀ u ∈ flV V, u.oneCell' = true := by
  intro u hu
  obtain ⟨t, _, hu⟩ := List.mem_flatMap.1 hu
  simp [vc] at hu
  rcases hu with rfl | rfl | rfl <;> rfl
theorem flN_one (L : List Int) : ∀ u ∈ flN L, u.oneCell' = true := by
  intro u hu
  obtain ⟨t, _, rfl⟩ := List.mem_map.1 hu
  rfl
theorem flN_len (L : List Int) : (flN L).length = L.length := by simp [flN]
/-- An answer by what it holds. -/
structure An where
  E : Int
  At : Int
  V : List VT
  L : List Int
/-- Not too long to be laid anew. -/
structure An.ok (a : An) : Prop where
  v : a.V.length * 32 ≤ 140737488355328
  l : a.L.length * 4 ≤ 140737488355328
  s : ∀ t ∈ a.V, t.2.2.size ≤ 281474976710656
def An.zero : An := ⟨0, 0, [], []⟩
theorem An.zero_ok : An.zero.ok := ⟨by decide, by decide, fun t ht => by simp [An.zero] at ht⟩
/-- Where an answer's lists are. -/
structure Pl where
  vo : Option Addr
  vc : Nat
  lo : Option Addr
  lc : Nat
def Pl.nil : Pl := ⟨none, 0, none, 0⟩
def An.cells (a : An) (p : Pl) : List Value := [.int .i64 a.E, .int .i64 a.At, .slice p.vo a.V.length p.vc, .slice p.lo a.L.length p.lc]
def An.val (a : An) (p : Pl) : Value := .agg #[.int .i64 a.E, .int .i64 a.At, .slice p.vo a.V.length p.vc, .slice p.lo a.L.length p.lc]
/-- What it holds is there. -/
structure AnAt (w : World) (a : An) (p : Pl) : Prop where
  v : RdC w p.vo (flV a.V)
  l : RdC w p.lo (flN a.L)
  nv : p.vo = none → a.V.length = 0 ∧ p.vc = 0
  nl : p.lo = none → a.L.length = 0 ∧ p.lc = 0
  ok : a.ok
theorem AnAt.below {w w' : World} {a : An} {p : Pl} (h : AnAt w a p) (hb : Below w.heap.size w w') : AnAt w' a p := ⟨h.v.below hb, h.l.below hb, h.nv, h.nl, h.ok⟩
/-- Its blocks are none of Z. -/
def Pl.off (p : Pl) (Z : Nat → Prop) : Prop := (∀ b o, p.vo = some ⟨b, o, none⟩ → ¬ Z b) ∧ (∀ b o, p.lo = some ⟨b, o, none⟩ → ¬ Z b)
theorem AnAt.on {Z : Nat → Prop} {w w' : World} {a : An} {p : Pl} (h : AnAt w a p) (ht : Turned Z w w') (hZ : p.off Z) : AnAt w' a p := ⟨h.v.on ht hZ.1, h.l.on ht hZ.2, h.nv, h.nl, h.ok⟩
theorem AnAt.zero (w : World) : AnAt w An.zero Pl.nil := ⟨RdC.nil _ _, RdC.nil _ _, fun _ => ⟨rfl, rfl⟩, fun _ => ⟨rfl, rfl⟩, An.zero_ok⟩
/-- An answer of the call's own. -/
def OwnOf (a : An) (w : World) (e : Ending) (w' : World) : Prop := ∃ p, e = .returned (a.val p) ∧ AnAt w' a p ∧ p.off (fun k => k < w.heap.size) ∧ Below w.heap.size w w'
theorem und59 : Try.prog.underlying 59 = some (.struct (Try.prog.fieldsOf 59)) := by kernel_rfl
theorem info59 : (Try.prog.info? 59).map (fun i => (i.zero, i.size, i.bytes)) = some (some (.agg #[.int .u8 0, .int .i64 0, .string ⟨#[]⟩]), 3, 32) := by kernel_rfl
theorem info23 : (Try.prog.info? 23).map (fun i => (i.zero, i.size, i.bytes)) = some (some (.int .u32 0), 1, 4) := by kernel_rfl
theorem size28 : (Try.prog.info? 28).map (·.size) = some 4 := by kernel_rfl
end Go.Proofs.Yteikhbfdegmffaa.Se
