/- place: what turns; a directory and its block. -/
import Derived.Test.YtlpbldkblchkpaaProg
import Derived.Test.YtlpbldkblchkpaaChecked
import Derived.WalkKit
import Derived.BigRegion
import Derived.BigQuiet
import Derived.Lib.Hide
import Derived.Lib.OwnBridge
import Derived.Deep.AppendLies
import Derived.Deep.RegionLaw
import Derived.Deep.RegionHeld3
import Derived.OwnWalk
import Derived.IntWalk
import Derived.Laws.CopyOwn
import Derived.Deep.LoopGhost
import Derived.Shelf.Abstract
import Derived.Laws.CopyRow
import Derived.Lib.SliceRun
import Derived.Lib.Overlaps
import Derived.Deep.CutBlock
import Derived.Deep.DeepCutAuto
import Derived.Deep.RegionWith
import Derived.StillTailTactics
import Derived.Laws.Rows
import Derived.Laws.StructEq
import Derived.ChangeKeysEq
import Derived.Maps.OwnSet
import Derived.Maps.AppendAt
import Derived.Maps.RangeWalk
import Derived.DeepKeys4
namespace Go.Proofs.Ytlpbldkblchkpaa.Pl
open Go Go.RowKit
/-- Of what was there the blocks of G alone have turned. -/
structure Turned (G : Nat → Prop) (w w' : World) : Prop where
  os : w'.os = w.os
  tape : w'.tape = w.tape
  output : w'.output = w.output
  size : w.heap.size ≤ w'.heap.size
  block : ∀ k, k < w.heap.size → ¬ G k → w'.heap[k]? = w.heap[k]?
theorem Turned.refl (G : Nat → Prop) (w : World) : Turned G w w := ⟨rfl, rfl, rfl, Nat.le_refl _, fun _ _ _ => rfl⟩
theorem Turned.of_grown {w w' : World} {r : Option Nat} (h : w.grownBy w' r) {G : Nat → Prop} (hr : ∀ k, r = some k → G k) : Turned G w w' :=
  ⟨h.os, h.tape, h.output, h.size, fun k hk hG => h.block k hk (fun e => hG (hr k e.symm))⟩
theorem Turned.trans {G H : Nat → Prop} {a b c : World} (h : Turned G a b) (k : Turned H b c) (hH : ∀ i, H i → G i ∨ a.heap.size ≤ i) : Turned G a c :=
  ⟨k.os.trans h.os, k.tape.trans h.tape, k.output.trans h.output, Nat.le_trans h.size k.size, fun i hi hG => (k.block i (Nat.lt_of_lt_of_le hi h.size) (fun e => (hH i e).elim hG (fun h' => by omega))).trans (h.block i hi hG)⟩
theorem Turned.then {G : Nat → Prop} {a b c : World} (h : Turned G a b) (k : Turned G b c) : Turned G a c := h.trans k (fun _ => .inl)
theorem Turned.mono {G H : Nat → Prop} {a b : World} (h : Turned G a b) (hH : ∀ i, G i → H i) : Turned H a b := ⟨h.os, h.tape, h.output, h.size, fun i hi hG => h.block i hi (fun e => hG (hH i e))⟩
theorem Turned.below {G : Nat → Prop} {w w' : World} (h : Turned G w w') {B : Nat} (hB : B ≤ w.heap.size) (hG : ∀ k, G k → B ≤ k) : Below B w w' :=
  ⟨h.os, h.tape, h.output, h.size, fun k hk => h.block k (by omega) (fun e => by have := hG k e; omega)⟩
theorem below_turned {w w' : World} {G : Nat → Prop} {B : Nat} (h : Below B w w') (hG : ∀ k, k < w.heap.size → B ≤ k → G k) : Turned G w w' :=
  ⟨h.os, h.tape, h.output, h.size, fun k hk hn => h.block k (Nat.lt_of_not_le fun e => hn (hG k hk e))⟩
theorem below_any {w w' : World} {G : Nat → Prop} (h : Below w.heap.size w w') : Turned G w w' := below_turned h (fun k h1 h2 => by omega)
theorem turned_drewN (G : Nat → Prop) (w : World) (n : Nat) : Turned G w (w.drewN n) := ⟨rfl, rfl, rfl, Nat.le_refl _, fun _ _ _ => rfl⟩
theorem turned_drew (G : Nat → Prop) (w : World) : Turned G w w.drew := ⟨rfl, rfl, rfl, Nat.le_refl _, fun _ _ _ => rfl⟩
theorem grown_set (w : World) (b i : Nat) (v : Value) : w.grownBy (w.setCell ⟨b, i, none⟩ v) (some b) :=
  ⟨rfl, rfl, rfl, by simp, fun k _ hk => by
    show (w.heap.modify b _)[k]? = _
    rw [Array.getElem?_modify, if_neg (fun e => hk (by rw [e]))]⟩
theorem turned_set (w : World) (b i : Nat) (v : Value) : Turned (fun k => k = b) w (w.setCell ⟨b, i, none⟩ v) := .of_grown (grown_set w b i v) (fun k e => by injection e with e; exact e.symm)
theorem own_on {W W' : World} {B e size k : Nat} {v : Value} {xs : List Value} (h : W.ownsRow B e size v k xs) (hs : ∀ g, v.ownBlock = some g → W'.heap[g]? = W.heap[g]?) : W'.ownsRow B e size v k xs := by
  refine ⟨h.1, ?_⟩
  rcases h.2 with h0 | ⟨g, cap, cur, e, e1, e2, e3⟩
  · exact .inl h0
  · exact .inr ⟨g, cap, cur, e, e1, (hs g (by rw [e]; rfl)).trans e2, e3⟩
theorem info_parts {P : Program} {t : TypeId} {z : Value} {s b : Nat} (h : (P.info? t).map (fun i => (i.zero, i.size, i.bytes)) = some (some z, s, b)) : ∃ i, P.info? t = some i ∧ i.zero = some z ∧ i.size = s ∧ i.bytes = b := by
  obtain ⟨i, h1, h2⟩ := Option.map_eq_some_iff.1 h
  simp only [Prod.mk.injEq] at h2
  exact ⟨i, h1, h2.1, h2.2.1, h2.2.2⟩
theorem wpList_value {P : Program} {ops : Array Oper} {rest : List Oper} {o : Oper} {a : Act} {w : World} {Q : Exit → Act → World → Prop} {v : Value} (hg : o.guard = none)
    (hrun : (execOp a.eval o).run P w = .ok (.value v) w) (h : wpList P ops Q rest (a.put o.dst v) w) : wpList P ops Q (o :: rest) a w :=
  wpList_plain hg fun K hK => by
    unfold Oper.wp
    rw [hrun]
    simp [go_sem]
    exact hK _ _ h
theorem wpStill_value {P : Program} {ops : Array Oper} {w : World} {Q : Act → Prop} {a : Act} {o : Oper} {rest : List Oper} {v : Value} (hg : o.guard = none)
    (hrun : (execOp a.eval o).run P w = .ok (.value v) w) (h : wpStill P ops w Q rest (a.put o.dst v)) : wpStill P ops w Q (o :: rest) a :=
  wpStill_step fun K hK => by
    simp only [Region.wanted, hg, if_true]
    unfold Oper.still
    rw [hrun]
    exact ⟨rfl, hK _ h⟩
theorem still_tail {P : Program} {id : Nat} {Q : Exit → Act → World → Prop} {a : Act} {w : World} {l : List Oper} (n : Nat) (hm : P.follows .mixedOrders = true) (hB : Region.lexTailB .any l.toArray n = true)
    (h : wpStill P l.toArray w.drew (fun a' => wpList P l.toArray Q (l.drop n) a' w.drew) (l.take n) a) : (Code.region id l.toArray true).wp P Q a w := wp_region_still_tail n hm hB h
theorem set_block {w : World} {b i : Nat} {cs : Array Value} {t : TypeId} {v : Value} (h : w.heap[b]? = some (.cells cs t (0, 0))) : (w.setCell ⟨b, i, none⟩ v).heap[b]? = some (.cells (cs.setIfInBounds i v) t (0, 0)) := by
  show (w.heap.modify b _)[b]? = _
  rw [Array.getElem?_modify, if_pos rfl, h]
  rfl
theorem Below.drewN_refl (w : World) (n : Nat) : Below w.heap.size w (w.drewN n) := ⟨rfl, rfl, rfl, Nat.le_refl _, fun _ _ => rfl⟩
theorem cell1 {w : World} {p : Nat} {v : Value} {t : TypeId} (h : w.heap[p]? = some (.cells #[v] t (0, 0))) : w.cell? ⟨p, 0, none⟩ = some v := by simp [World.cell?, h]
/-- An entry: the vertex, its owner, its epoch. -/
abbrev Ent := Int × Int × Int
def en (t : Ent) : List Value := [.int .u32 t.1, .int .u8 t.2.1, .int .u32 t.2.2]
/-- Entries, one behind the other. -/
def fl (L : List Ent) : List Value := L.flatMap en
theorem fl_len (L : List Ent) : (fl L).length = L.length * 3 := by
  induction L with
  | nil => rfl
  | cons t L ih =>
    have e : fl (t :: L) = en t ++ fl L := rfl
    rw [e, List.length_append, ih]; simp [en]; omega
theorem fl_app (L M : List Ent) : fl (L ++ M) = fl L ++ fl M := by simp [fl]
theorem fl_at {L : List Ent} {i : Nat} {t : Ent} (h : L[i]? = some t) : ∀ j, j < 3 → (fl L)[i * 3 + j]? = (en t)[j]? := by
  induction L generalizing i with
  | nil => simp at h
  | cons s L ih =>
    intro j hj
    have e : fl (s :: L) = en s ++ fl L := rfl
    have el : (en s).length = 3 := rfl
    match i with
    | 0 =>
      simp at h
      rw [e, h, List.getElem?_append_left (by rw [show (en t).length = 3 from rfl]; omega)]
      simp
    | i + 1 =>
      simp at h
      rw [e, List.getElem?_append_right (by omega), ← ih h j hj, el]
      congr 1; omega
theorem fl_one (t : Ent) : (fl [t]).length = 1 * 3 := rfl
/-- The entries of a directory. -/
def rows (G : Nat → Ent) : List Ent := (List.range 40).map G
theorem rows_len (G : Nat → Ent) : (rows G).length = 40 := by simp [rows]
theorem rows_at (G : Nat → Ent) {v : Nat} (h : v < 40) : (rows G)[v]? = some (G v) := by simp [rows, h]
def put {α : Type} (f : Nat → α) (i : Nat) (x : α) : Nat → α := fun j => if j = i then x else f j
theorem fl_set {L : List Ent} {i : Nat} (h : i < L.length) (t : Ent) : fl (L.set i t) = (((fl L).set (i * 3) (.int .u32 t.1)).set (i * 3 + 1) (.int .u8 t.2.1)).set (i * 3 + 2) (.int .u32 t.2.2) := by
  induction L generalizing i with
  | nil => simp at h
  | cons s L ih =>
    match i with
    | 0 => rfl
    | i + 1 =>
      have e : ∀ L', fl (s :: L') = .int .u32 s.1 :: .int .u8 s.2.1 :: .int .u32 s.2.2 :: fl L' := fun _ => rfl
      rw [List.set_cons_succ, e, e, ih (by simpa using h)]
      rw [show (i + 1) * 3 = i * 3 + 1 + 1 + 1 by omega, show i * 3 + 1 + 1 + 1 + 1 = (i * 3 + 1) + 1 + 1 + 1 by omega, show i * 3 + 1 + 1 + 1 + 2 = (i * 3 + 2) + 1 + 1 + 1 by omega]
      simp only [List.set_cons_succ]
theorem rows_put (G : Nat → Ent) {i : Nat} (h : i < 40) (t : Ent) : rows (put G i t) = (rows G).set i t := by
  apply List.ext_getElem?
  intro j
  by_cases hj : j < 40
  · rw [rows_at _ hj]
    by_cases e : j = i
    · subst e; rw [List.getElem?_set_self (by rw [rows_len]; omega)]; simp [put]
    · rw [List.getElem?_set_ne (fun h => e h.symm), rows_at _ hj]; simp [put, e]
  · rw [List.getElem?_eq_none (by rw [rows_len]; omega), List.getElem?_eq_none (by rw [List.length_set, rows_len]; omega)]
def dirL (n : Int) (G : Nat → Ent) : List Value := .int .i64 n :: fl (rows G)
theorem dir_len (n : Int) (G : Nat → Ent) : (dirL n G).length = 121 := by
  show (fl (rows G)).length + 1 = 121
  rw [fl_len, rows_len]
/-- A directory's block. -/
def DirAt (w : World) (b : Nat) (n : Int) (G : Nat → Ent) : Prop := w.heap[b]? = some (.cells (dirL n G).toArray 45 (0, 0))
section
variable {w w' : World} {b : Nat} {n : Int} {G : Nat → Ent}
theorem DirAt.lt (h : DirAt w b n G) : b < w.heap.size := (Array.getElem?_eq_some_iff.1 h).1
theorem DirAt.on {Z : Nat → Prop} (h : DirAt w b n G) (ht : Turned Z w w') (hZ : ¬ Z b) : DirAt w' b n G := (ht.block b h.lt hZ).trans h
theorem DirAt.head (h : DirAt w b n G) : w.cell? ⟨b, 0, none⟩ = some (.int .i64 n) := by
  unfold DirAt at h
  simp [World.cell?, h, dirL]
theorem DirAt.free (h : DirAt w b n G) (i : Nat) : w.frozen? ⟨b, i, none⟩ = false := by
  unfold DirAt at h
  simp [World.frozen?, h]
theorem DirAt.cell (h : DirAt w b n G) {v : Nat} (hv : v < 40) : w.cell? ⟨b, 1 + v * 3, none⟩ = some (.int .u32 (G v).1) ∧ w.cell? ⟨b, 1 + v * 3 + 1, none⟩ = some (.int .u8 (G v).2.1) ∧ w.cell? ⟨b, 1 + v * 3 + 2, none⟩ = some (.int .u32 (G v).2.2) := by
  have hc : ∀ j, w.cell? ⟨b, j + 1, none⟩ = (fl (rows G))[j]? := fun j => by
    unfold DirAt at h
    simp [World.cell?, h, dirL]
  have hf := fl_at (rows_at G hv)
  rw [show 1 + v * 3 = v * 3 + 1 by omega, show v * 3 + 1 + 1 = (v * 3 + 1) + 1 by omega, show v * 3 + 1 + 2 = (v * 3 + 2) + 1 by omega, hc, hc, hc]
  exact ⟨hf 0 (by omega), hf 1 (by omega), hf 2 (by omega)⟩
theorem DirAt.put3 (h : DirAt w b n G) {v : Nat} (hv : v < 40) (t : Ent) : DirAt (((w.setCell ⟨b, 1 + v * 3, none⟩ (.int .u32 t.1)).setCell ⟨b, 1 + v * 3 + 1, none⟩ (.int .u8 t.2.1)).setCell ⟨b, 1 + v * 3 + 2, none⟩ (.int .u32 t.2.2)) b n (put G v t) := by
  unfold DirAt at h ⊢
  rw [set_block (set_block (set_block h))]
  have e : dirL n (put G v t) = (((dirL n G).set (1 + v * 3) (.int .u32 t.1)).set (1 + v * 3 + 1) (.int .u8 t.2.1)).set (1 + v * 3 + 2) (.int .u32 t.2.2) := by
    unfold dirL
    rw [rows_put G hv, fl_set (by rw [rows_len]; exact hv), show 1 + v * 3 = v * 3 + 1 by omega, show v * 3 + 1 + 1 = (v * 3 + 1) + 1 by omega, show v * 3 + 1 + 2 = (v * 3 + 2) + 1 by omega]
    simp only [List.set_cons_succ]
  rw [e]
  simp
end
def Did (b : Nat) (w w' : World) : Prop := Turned (fun k => k = b) w w'
end Go.Proofs.Ytlpbldkblchkpaa.Pl
