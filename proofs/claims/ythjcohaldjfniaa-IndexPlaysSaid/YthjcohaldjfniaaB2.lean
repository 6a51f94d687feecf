/- index: an index in memory; Len, find, walked. -/
import Derived.Test.YthjcohaldjfniaaM1
import Derived.Deep.QuietTactic
namespace Go.Proofs.Ythjcohaldjfniaa.Ix
open Go Go.RowKit
open Pq (Pg pv fq)
open It (fl)
theorem free1 {w : World} {b i : Nat} {cs : Array Value} {t : TypeId} (h : w.heap[b]? = some (.cells cs t (0, 0))) : w.frozen? ⟨b, i, none⟩ = false := by
  simp [World.frozen?, h]
theorem set_block {w : World} {b i : Nat} {cs : Array Value} {t : TypeId} {v : Value} (h : w.heap[b]? = some (.cells cs t (0, 0))) : (w.setCell ⟨b, i, none⟩ v).heap[b]? = some (.cells (cs.setIfInBounds i v) t (0, 0)) := by
  rw [setCell_eq_setRow w b i cs t (0, 0) v h, setRow_heap w b cs _ t (0, 0) h]
theorem grown_set (w : World) (b i : Nat) (v : Value) : w.grownBy (w.setCell ⟨b, i, none⟩ v) (some b) :=
  ⟨rfl, rfl, rfl, by simp, fun k _ hk => by
    show (w.heap.modify b _)[k]? = _
    rw [Array.getElem?_modify, if_neg (fun e => hk (by rw [e]))]⟩
/-- Of what was there the blocks of G alone have turned. -/
structure Turned (G : Nat → Prop) (w w' : World) : Prop where
  os : w'.os = w.os
  tape : w'.tape = w.tape
  output : w'.output = w.output
  size : w.heap.size ≤ w'.heap.size
  block : ∀ k, k < w.heap.size → ¬ G k → w'.heap[k]? = w.heap[k]?
theorem Turned.refl (G : Nat → Prop) (w : World) : Turned G w w := ⟨rfl, rfl, rfl, Nat.le_refl _, fun _ _ _ => rfl⟩
theorem Turned.of_grown {w w' : World} {r : Option Nat} (h : w.grownBy w' r) {G : Nat → Prop} (hr : ∀ k, r = some k → G k) : Turned G w w' :=
  ⟨h.os, h.tape, h.output, h.size, fun k hk hG => h.block k hk (fun e => hG (hr k e.symm))⟩
theorem Turned.trans {G H : Nat → Prop} {a b c : World} (h : Turned G a b) (k : Turned H b c) (hH : ∀ i, H i → G i ∨ a.heap.size ≤ i) : Turned G a c :=
  ⟨k.os.trans h.os, k.tape.trans h.tape, k.output.trans h.output, Nat.le_trans h.size k.size, fun i hi hG => (k.block i (Nat.lt_of_lt_of_le hi h.size) (fun e => (hH i e).elim hG (fun h' => by omega))).trans (h.block i hi hG)⟩
theorem Turned.mono {G H : Nat → Prop} {a b : World} (h : Turned G a b) (hH : ∀ i, G i → H i) : Turned H a b := ⟨h.os, h.tape, h.output, h.size, fun i hi hG => h.block i hi (fun e => hG (hH i e))⟩
theorem Turned.below {G : Nat → Prop} {w w' : World} (h : Turned G w w') {B : Nat} (hB : B ≤ w.heap.size) (hG : ∀ k, G k → B ≤ k) : Below B w w' :=
  ⟨h.os, h.tape, h.output, h.size, fun k hk => h.block k (by omega) (fun e => by have := hG k e; omega)⟩
theorem below_turned {w w' : World} {G : Nat → Prop} {B : Nat} (h : Below B w w') (hG : ∀ k, k < w.heap.size → B ≤ k → G k) : Turned G w w' :=
  ⟨h.os, h.tape, h.output, h.size, fun k hk hn => h.block k (Nat.lt_of_not_le fun e => hn (hG k hk e))⟩
theorem below_any {w w' : World} {G : Nat → Prop} (h : Below w.heap.size w w') : Turned G w w' := below_turned h (fun k h1 h2 => by omega)
/-- An index in block p: v is its pages, each in a block of its own, all among F. -/
structure IdxAt (w : World) (B : Nat) (F : Nat → Prop) (p : Nat) (v : Value) (X : List Pg) : Prop where
  cell : w.heap[p]? = some (.cells #[v, .int .i64 (cont X).length] 63 (0, 0))
  row : w.ownsRow B 52 1 v X.length (fq X)
  pgs : ∀ t ∈ X, PgAt w t ∧ F t.g
  one : (X.map Pg.g).Nodup
  fit : Fit X
  base : B ≤ w.heap.size
  fp : F p
  fv : ∀ g, v.ownBlock = some g → F g
  hi : ∀ k, F k → k < w.heap.size
  low : ∀ k, F k → B ≤ k
theorem IdxAt.on {w w' : World} {B p : Nat} {F G : Nat → Prop} {v : Value} {X : List Pg} (h : IdxAt w B F p v X) (ht : Turned G w w') (hF : ∀ k, F k → ¬ G k) : IdxAt w' B F p v X :=
  ⟨(ht.block p (h.hi p h.fp) (hF p h.fp)).trans h.cell, own_on h.row (fun g e => ht.block g (h.hi g (h.fv g e)) (hF g (h.fv g e))), fun t hm => ⟨(h.pgs t hm).1.on (ht.block _ (h.hi _ (h.pgs t hm).2) (hF _ (h.pgs t hm).2)), (h.pgs t hm).2⟩, h.one, h.fit, Nat.le_trans h.base ht.size, h.fp, h.fv, fun k hk => Nat.lt_of_lt_of_le (h.hi k hk) ht.size, h.low⟩
theorem IdxAt.below {w w' : World} {B p : Nat} {F : Nat → Prop} {v : Value} {X : List Pg} (h : IdxAt w B F p v X) (hb : Below w.heap.size w w') : IdxAt w' B F p v X := h.on (G := fun _ => False) (below_any hb) (fun _ _ => id)
theorem IdxAt.cells {w : World} {B p : Nat} {F : Nat → Prop} {v : Value} {X : List Pg} (h : IdxAt w B F p v X) : w.cell? ⟨p, 0, none⟩ = some v ∧ w.cell? ⟨p, 1, none⟩ = some (.int .i64 (cont X).length) := by
  simp [World.cell?, h.cell]
/-- The pages' slice, and what its cells hold. -/
theorem IdxAt.slice {w : World} {B p : Nat} {F : Nat → Prop} {v : Value} {X : List Pg} (h : IdxAt w B F p v X) : ∃ (ao : Option Addr) (cap : Nat), v = .slice ao X.length cap ∧ X.length ≤ cap ∧ (0 < X.length → ∃ g, ao = some ⟨g, 0, none⟩ ∧ ∀ j t, X[j]? = some t → w.cell? ⟨g, j, none⟩ = some (pv t)) := by
  obtain ⟨ao, cap, e, hc, _, hx⟩ := Pq.own_slice h.row
  refine ⟨ao, cap, e, hc, fun h0 => ?_⟩
  obtain ⟨g, e1, h1⟩ := hx h0
  exact ⟨g, e1, fun j t hj => h1 j _ (Pq.fq_at hj)⟩
theorem cont_pos {X : List Pg} (hf : Fit X) : (cont X).length = 0 ↔ X = [] := by
  constructor
  · intro h
    cases X with
    | nil => rfl
    | cons t X =>
      have := hf.one t (by simp)
      rw [cont_cons, List.length_append] at h
      omega
  · rintro rfl; rfl
theorem cont_len {X : List Pg} (hf : Fit X) : X.length ≤ (cont X).length := by
  have h : ∀ Y : List Pg, (∀ t ∈ Y, 1 ≤ t.P.length) → Y.length ≤ (cont Y).length := by
    intro Y hy
    induction Y with
    | nil => simp
    | cons t Y ih =>
      have h1 := hy t (by simp)
      have h2 := ih (fun s hs => hy s (by simp [hs]))
      rw [cont_cons, List.length_append, List.length_cons]
      omega
  exact h X (fun t ht => (hf.one t ht).1)
theorem len_any {w : World} {B p : Nat} {F : Nat → Prop} {v : Value} {X : List Pg} (h : IdxAt w B F p v X) : Calls Try.prog 18 #[.pointer (some ⟨p, 0, none⟩)] w fun e w' => e = .returned (.int .i64 (cont X).length) ∧ w = w' := by
  obtain ⟨_, c1⟩ := h.cells
  clear h
  go_enter Try.func18, Try.ntmps18
  go_wp2
  go_ret
  exact ⟨rfl, rfl⟩
theorem len_nil (w : World) : Calls Try.prog 18 #[.pointer none] w fun e w' => e = .returned (.int .i64 0) ∧ w = w' := by
  go_enter Try.func18, Try.ntmps18
  go_wp2
  go_ret
  exact ⟨rfl, rfl⟩
/-- The closure that the search asks: does the page begin above k? -/
theorem above_tells {w : World} {B p : Nat} {F : Nat → Prop} {v : Value} {X : List Pg} (h : IdxAt w B F p v X) (x : Int) (q1 q2 : Nat) (h1 : w.cell? ⟨q1, 0, none⟩ = some (.pointer (some ⟨p, 0, none⟩))) (h2 : w.cell? ⟨q2, 0, none⟩ = some (.int .u64 x)) :
    Tells 32 (.pointer (some ⟨q1, 0, none⟩)) (.pointer (some ⟨q2, 0, none⟩)) X.length (fun k => decide (x < fst X k)) w := by
  intro k W hk hb
  have hW := h.below hb
  obtain ⟨ao, cap, rfl, hnc, hcell⟩ := hW.slice
  obtain ⟨g, rfl, hc⟩ := hcell (by omega)
  have ht : X[k]? = some (X.getD k default) := getD_at X k default hk
  have c1 := hc _ _ ht
  obtain ⟨t, et⟩ : ∃ t, t = X.getD k default := ⟨_, rfl⟩
  have hP := (hW.pgs _ (List.mem_of_getElem? ht)).1
  have hl := hW.fit.one _ (List.mem_of_getElem? ht)
  have e0 : fst X k = (t.P.getD 0 (0, 0)).1 := by rw [et]; rfl
  rw [← et] at c1 hP hl
  have c2 := (hP.cells (getD_at t.P 0 (0, 0) (by omega))).1
  obtain ⟨q, eq⟩ : ∃ q, q = t.P.getD 0 (0, 0) := ⟨_, rfl⟩
  have HE := Lib.hid (e0.trans (congrArg Prod.fst eq.symm))
  rw [← eq] at c2
  have hl0 : (0 : Int) < (t.P.length : Int) := by omega
  have c0 := hW.cells.1
  have d1 := (hb.cell (World.block_lt_of_cell? w _ h1)).trans h1
  have d2 := (hb.cell (World.block_lt_of_cell? w _ h2)).trans h2
  have hk' : (k : Int) < (X.length : Int) := by omega
  clear hW hc ht h h1 h2 et hcell e0 eq hP hl
  simp only [Nat.zero_mul] at c2
  unfold pv at c1
  go_enter Try.func32, Try.ntmps32
  go_wp2_with fail
  go_quiet (fail)
  go_wp2_with fail
  go_ret
  exact ⟨by rw [← HE.out]; rfl, Below.drewN_refl W nq⟩
end Go.Proofs.Ythjcohaldjfniaa.Ix
