/- plate: what a plate is in memory. -/
import Derived.Test.YtjfbgihjgnbeeaaA1
import Derived.Laws.CopyOwn
import Derived.Deep.AppendLies
import Derived.RangeFuncBox
namespace Go.Proofs.Ytjfbgihjgnbeeaa.Pl
open Go Go.RowKit
theorem below_grown {w w' : World} (h : Below w.heap.size w w') : w.grownBy w' none := ⟨h.os, h.tape, h.output, h.size, fun k hk _ => h.block k hk⟩
theorem grown_below {w w' : World} {r : Option Nat} (h : w.grownBy w' r) {B : Nat} (hB : B ≤ w.heap.size) (hr : ∀ k, r = some k → B ≤ k) : Below B w w' :=
  ⟨h.os, h.tape, h.output, h.size, fun k hk => h.block k (by omega) (fun e => by have := hr k e.symm; omega)⟩
/-- Bytes that stand from an address on. -/
def Src (w : World) (ao : Option Addr) (bs : List Value) : Prop :=
  (0 < bs.length → ∃ ad, ao = some ad ∧ ∀ j v, bs[j]? = some v → w.cell? (ad.add j) = some v) ∧ ∀ x ∈ bs, IsByte x
theorem Src.on {w w' : World} {ao : Option Addr} {bs : List Value} (h : Src w ao bs) {r : Option Nat} (hg : w.grownBy w' r) (hr : ∀ ad, ao = some ad → some ad.block ≠ r) : Src w' ao bs := by
  refine ⟨fun h0 => ?_, h.2⟩
  obtain ⟨ad, e, hc⟩ := h.1 h0
  refine ⟨ad, e, fun j v hv => hg.cell (hc j v hv) ?_⟩
  rw [show (ad.add j).block = ad.block by unfold Addr.add; split <;> rfl]
  exact hr ad e
theorem Src.below {w w' : World} {ao : Option Addr} {bs : List Value} (h : Src w ao bs) (hb : Below w.heap.size w w') : Src w' ao bs := h.on (below_grown hb) (fun _ _ => by simp)
def pageOf (bs : List Value) : Array Value := (splice Zp.toList 0 bs).toArray
theorem page_of {bs : List Value} (h : bs.length ≤ 64) (hb : ∀ x ∈ bs, IsByte x) : IsPage (pageOf bs) := by
  refine ⟨?_, fun x hx => ?_⟩
  · have := length_splice Zp.toList 0 bs (by simp [Zp]; omega)
    simp only [pageOf, List.size_toArray, this]
    simp [Zp]
  · simp only [pageOf, splice, List.take_zero, List.nil_append] at hx
    rcases List.mem_append.1 hx with hx | hx
    · exact hb x hx
    · exact zp_page.2 x (List.mem_of_mem_drop hx)
/-- What a plate is told to be: its pages' number, what they have, the writes since the last flush (page, what it had, what it has), its power. -/
structure PSt where
  N : Int
  pg : Int → Array Value
  op : List (Int × Array Value × Array Value)
  off : Bool
  left : Int
  ops : Int
def opCells (l : List (Int × Array Value × Array Value)) : List Value := l.flatMap fun t => (wr t.1 t.2.1 t.2.2).toList
theorem opCells_app (l : List (Int × Array Value × Array Value)) (i : Int) (p c : Array Value) : opCells (l ++ [(i, p, c)]) = opCells l ++ (wr i p c).toList := by simp [opCells]
/-- A plate in block b: its own blocks are among F, and from B on; its map has had at most n stores. -/
structure PlateAt (w : World) (B : Nat) (F : Nat → Prop) (b n bm : Nat) (v : Value) (s : PSt) : Prop where
  blk : w.heap[b]? = some (.cells #[.int .i64 s.N, .map (some bm), v, .bool s.off, .int .i64 s.left, .int .i64 s.ops] 68 (0, 0))
  map : MapIs w bm n s.pg
  row : w.ownsRow B 84 129 v s.op.length (opCells s.op)
  each : ∀ t ∈ s.op, In64 t.1 ∧ IsPage t.2.1 ∧ IsPage t.2.2
  base : B ≤ w.heap.size
  fb : F b
  fm : F bm
  fv : ∀ g, v.ownBlock = some g → F g
  low : ∀ k, F k → B ≤ k
  hi : ∀ k, F k → k < w.heap.size
  lb : 0 ≤ s.left ∧ s.left ≤ 9223372036854775807
  ob : 0 ≤ s.ops ∧ s.ops < 4611686018427387904
  nb : 1 ≤ s.N ∧ s.N ≤ 65536
theorem map_not_cells {w : World} {bm n : Nat} {pg : Int → Array Value} (h : MapIs w bm n pg) {b : Nat} {cs : Array Value} {t : TypeId} {fr : Nat × Nat} (hb : w.heap[b]? = some (.cells cs t fr)) : b ≠ bm := by
  rintro rfl
  obtain ⟨D, ⟨es, clock, hm, _⟩, _⟩ := h
  rw [hb] at hm
  cases hm
theorem row_not_map {w : World} {bm n : Nat} {pg : Int → Array Value} (h : MapIs w bm n pg) {B e size k : Nat} {v : Value} {xs : List Value} (hr : w.ownsRow B e size v k xs) : v.ownBlock ≠ some bm := by
  intro e'
  rcases hr.2 with ⟨rfl, _⟩ | ⟨g, cap, cur, rfl, _, hg, _⟩
  · simp [Value.ownBlock] at e'
  · have : g = bm := by simpa [Value.ownBlock] using e'
    exact map_not_cells h hg this
theorem row_not_cells {w : World} {b : Nat} {cs : Array Value} {t e : TypeId} {fr : Nat × Nat} (hb : w.heap[b]? = some (.cells cs t fr)) (hte : t ≠ e) {B size k : Nat} {v : Value} {xs : List Value} (hr : w.ownsRow B e size v k xs) : v.ownBlock ≠ some b := by
  intro e'
  rcases hr.2 with ⟨rfl, _⟩ | ⟨g, cap, cur, rfl, _, hg, _⟩
  · simp [Value.ownBlock] at e'
  · have : g = b := by simpa [Value.ownBlock] using e'
    subst this
    rw [hb] at hg
    cases hg
    exact hte rfl
/-- Of what was there the blocks of G alone have turned. -/
structure Turned (G : Nat → Prop) (w w' : World) : Prop where
  os : w'.os = w.os
  tape : w'.tape = w.tape
  output : w'.output = w.output
  size : w.heap.size ≤ w'.heap.size
  block : ∀ k, k < w.heap.size → ¬ G k → w'.heap[k]? = w.heap[k]?
theorem Turned.refl (G : Nat → Prop) (w : World) : Turned G w w := ⟨rfl, rfl, rfl, Nat.le_refl _, fun _ _ _ => rfl⟩
theorem Turned.of_grown {w w' : World} {r : Option Nat} (h : w.grownBy w' r) {G : Nat → Prop} (hr : ∀ k, r = some k → G k) : Turned G w w' :=
  ⟨h.os, h.tape, h.output, h.size, fun k hk hG => h.block k hk (fun e => hG (hr k e.symm))⟩
theorem Turned.trans {G H : Nat → Prop} {a b c : World} (h : Turned G a b) (k : Turned H b c) (hH : ∀ i, H i → G i ∨ a.heap.size ≤ i) : Turned G a c :=
  ⟨k.os.trans h.os, k.tape.trans h.tape, k.output.trans h.output, Nat.le_trans h.size k.size, fun i hi hG => (k.block i (Nat.lt_of_lt_of_le hi h.size) (fun e => (hH i e).elim hG (fun h' => by omega))).trans (h.block i hi hG)⟩
theorem Turned.mono {G H : Nat → Prop} {a b : World} (h : Turned G a b) (hH : ∀ i, G i → H i) : Turned H a b := ⟨h.os, h.tape, h.output, h.size, fun i hi hG => h.block i hi (fun e => hG (hH i e))⟩
theorem Turned.below {G : Nat → Prop} {w w' : World} (h : Turned G w w') {B : Nat} (hB : B ≤ w.heap.size) (hG : ∀ k, G k → B ≤ k) : Below B w w' :=
  ⟨h.os, h.tape, h.output, h.size, fun k hk => h.block k (by omega) (fun e => by have := hG k e; omega)⟩
theorem below_turned {w w' : World} {G : Nat → Prop} {B : Nat} (h : Below B w w') (hG : ∀ k, k < w.heap.size → B ≤ k → G k) : Turned G w w' :=
  ⟨h.os, h.tape, h.output, h.size, fun k hk hn => h.block k (Nat.lt_of_not_le fun e => hn (hG k hk e))⟩
theorem PlateAt.on {w w' : World} {B b n bm : Nat} {F G : Nat → Prop} {v : Value} {s : PSt} (h : PlateAt w B F b n bm v s) (ht : Turned G w w') (hF : ∀ k, F k → ¬ G k) : PlateAt w' B F b n bm v s := by
  have hb := (Array.getElem?_eq_some_iff.1 h.blk).1
  obtain ⟨D, hD, hD'⟩ := h.map
  have hm := hD.lt
  refine ⟨(ht.block b hb (hF b h.fb)).trans h.blk, ⟨D, ?_, hD'⟩, ?_, h.each, Nat.le_trans h.base ht.size, h.fb, h.fm, h.fv, h.low, fun k hk => Nat.lt_of_lt_of_le (h.hi k hk) ht.size, h.lb, h.ob, h.nb⟩
  · obtain ⟨es, clock, e1, e2⟩ := hD
    exact ⟨es, clock, (ht.block bm hm (hF bm h.fm)).trans e1, e2⟩
  · refine ⟨h.row.1, ?_⟩
    rcases h.row.2 with h0 | ⟨g, cap, cur, e, e1, e2, e3⟩
    · exact .inl h0
    · exact .inr ⟨g, cap, cur, e, e1, (ht.block g (Array.getElem?_eq_some_iff.1 e2).1 (hF g (h.fv g (by rw [e]; rfl)))).trans e2, e3⟩
/-- What has become of a plate behind an operation. -/
def Did (w : World) (B : Nat) (F : Nat → Prop) (b n bm : Nat) (s : PSt) (w' : World) : Prop :=
  ∃ (v : Value) (F' : Nat → Prop), PlateAt w' B F' b n bm v s ∧ (∀ k, F' k → F k ∨ w.heap.size ≤ k) ∧ Turned F w w'
theorem PlateAt.did {w : World} {B b n bm : Nat} {F : Nat → Prop} {v : Value} {s : PSt} (h : PlateAt w B F b n bm v s) : Did w B F b n bm s w := ⟨v, F, h, fun _ hk => .inl hk, .refl _ _⟩
/-- The plate's own block is written anew, with the same map and the same writes or none. -/
theorem PlateAt.again {w w' : World} {B b n bm : Nat} {F : Nat → Prop} {v v' : Value} {s s' : PSt} (h : PlateAt w B F b n bm v s) (hg : w.grownBy w' (some b))
    (hblk : w'.heap[b]? = some (.cells #[.int .i64 s'.N, .map (some bm), v', .bool s'.off, .int .i64 s'.left, .int .i64 s'.ops] 68 (0, 0))) (hpg : s'.pg = s.pg) (hN : s'.N = s.N)
    (hv : (v' = v ∧ s'.op = s.op) ∨ (v' = .slice none 0 0 ∧ s'.op = [])) (hl : 0 ≤ s'.left ∧ s'.left ≤ 9223372036854775807) (ho : 0 ≤ s'.ops ∧ s'.ops < 4611686018427387904) : PlateAt w' B F b n bm v' s' := by
  have hbm : some bm ≠ some b := fun e => map_not_cells h.map h.blk (by injection e with e; exact e.symm)
  refine ⟨hblk, by rw [hpg]; exact h.map.kept hg hbm, ?_, ?_, Nat.le_trans h.base hg.size, h.fb, h.fm, ?_, h.low, fun k hk => Nat.lt_of_lt_of_le (h.hi k hk) hg.size, hl, ho, by rw [hN]; exact h.nb⟩
  · rcases hv with ⟨rfl, e⟩ | ⟨rfl, e⟩
    · rw [e]; exact h.row.kept hg (.inr (row_not_cells h.blk (by decide) h.row))
    · rw [e]; exact World.ownsRow_nil _ _ _ _
  · rcases hv with ⟨rfl, e⟩ | ⟨rfl, e⟩
    · rw [e]; exact h.each
    · rw [e]; intro t ht; cases ht
  · rcases hv with ⟨rfl, e⟩ | ⟨rfl, e⟩
    · exact h.fv
    · intro g hg; simp [Value.ownBlock] at hg
theorem PlateAt.did_again {w w' : World} {B b n bm : Nat} {F : Nat → Prop} {v v' : Value} {s s' : PSt} (h : PlateAt w B F b n bm v s) (hg : w.grownBy w' (some b)) (h' : PlateAt w' B F b n bm v' s') : Did w B F b n bm s' w' :=
  ⟨v', F, h', fun _ hk => .inl hk, .of_grown hg (fun k e => by injection e with e; subst e; exact h.fb)⟩
end Go.Proofs.Ytjfbgihjgnbeeaa.Pl
