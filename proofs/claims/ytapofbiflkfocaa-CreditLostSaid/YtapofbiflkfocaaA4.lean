/- credit: a pool by what it holds; New, Done, Out, Back, walked. -/
import Derived.Test.YtapofbiflkfocaaA3
namespace Go.Proofs.Ytapofbiflkfocaa.Cr
open Go Go.RowKit
def setV (C : TK → Bool) : TK → Option Value := fun k => if C k then some (.agg #[]) else none
def add (C : TK → Bool) (k : TK) : TK → Bool := fun j => if j = k then true else C j
/-- A pool: how much is out, whose has come back. -/
structure Pool (w : World) (p a n : Nat) (o : Int) (C : TK → Bool) : Prop where
  cell : w.heap[p]? = some (.cells #[.int .u64 o, .map (some a)] 45 (0, 0))
  came : MapV (.agg #[]) w a n (setV C)
  o0 : 0 ≤ o
  o1 : o ≤ 1152921504606846976
theorem map_block {zd : Value} {w : World} {b n : Nat} {V : TK → Option Value} (h : MapV zd w b n V) : ∃ es clock, w.heap[b]? = some (.map es clock) := by
  obtain ⟨D, ⟨es, clock, h1, _⟩, _⟩ := h
  exact ⟨es, clock, h1⟩
section
variable {w w' : World} {p a n : Nat} {o : Int} {C : TK → Bool}
theorem Pool.on {G : Nat → Prop} (h : Pool w p a n o C) (ht : Turned G w w') (hp : ¬ G p) (ha : ¬ G a) : Pool w' p a n o C :=
  ⟨(ht.block p (Array.getElem?_eq_some_iff.1 h.cell).1 hp).trans h.cell, h.came.on ht ha, h.o0, h.o1⟩
theorem Pool.below (h : Pool w p a n o C) (hb : Below w.heap.size w w') : Pool w' p a n o C := h.on (G := fun _ => False) (below_any hb) id id
theorem Pool.lt (h : Pool w p a n o C) : p < w.heap.size ∧ a < w.heap.size := ⟨(Array.getElem?_eq_some_iff.1 h.cell).1, h.came.lt⟩
theorem Pool.ne (h : Pool w p a n o C) : p ≠ a := by
  obtain ⟨_, _, h1⟩ := map_block h.came
  intro e
  have := h.cell; rw [e, h1] at this; cases this
theorem Pool.cells (h : Pool w p a n o C) : w.cell? ⟨p, 0, none⟩ = some (.int .u64 o) ∧ w.cell? ⟨p, 1, none⟩ = some (.map (some a)) ∧ ∀ j, w.frozen? ⟨p, j, none⟩ = false := by
  have := h.cell
  simp [World.cell?, World.frozen?, this]
end
set_option maxRecDepth 100000 in
theorem new_any (w : World) : Calls Try.prog 10 #[] w fun e w' => e = .returned (.pointer (some ⟨w.heap.size + 1, 0, none⟩)) ∧ Pool w' (w.heap.size + 1) w.heap.size 0 1152921504606846976 (fun _ => false) ∧ Below w.heap.size w w' ∧ w'.heap.size = w.heap.size + 2 := by
  have hmm := @run_makeMap Try.prog
  have h1 := Lib.hid (MapV.made (.agg #[]) w)
  go_enter Try.func10, Try.ntmps10
  go_wp2
  go_ret
  have b1 : Below w.heap.size w (w.alloc (.map #[] 0)) := (Below.refl _ w).alloc (Nat.le_refl _) _
  have z1 : (w.alloc (.map #[] 0)).heap.size = w.heap.size + 1 := by simp
  refine ⟨by simp, ⟨?_, ?_, by decide, by decide⟩, b1.alloc b1.size _, by simp⟩
  · have hn := heap_alloc_new (w.alloc (.map #[] 0)) (.cells #[.int .u64 1152921504606846976, .map (some w.heap.size)] 45)
    rw [z1] at hn
    simpa using hn
  · exact h1.out.kept (World.grownBy_alloc _ _ none) (by simp)
theorem done_any {w : World} {p a n : Nat} {o : Int} {C : TK → Bool} (h : Pool w p a n o C) : Calls Try.prog 12 #[.pointer (some ⟨p, 0, none⟩)] w fun e w' => e = .returned (.bool (o == 0)) ∧ w = w' := by
  obtain ⟨c0, _, _⟩ := h.cells
  clear h
  go_enter Try.func12, Try.ntmps12
  go_wp2
  go_ret
  exact ⟨rfl, rfl⟩
theorem out_any {w : World} {p a n : Nat} {o : Int} {C : TK → Bool} (h : Pool w p a n o C) : Calls Try.prog 13 #[.pointer (some ⟨p, 0, none⟩)] w fun e w' => e = .returned (.int .u64 o) ∧ w = w' := by
  obtain ⟨c0, _, _⟩ := h.cells
  clear h
  go_enter Try.func13, Try.ntmps13
  go_wp2
  go_ret
  exact ⟨rfl, rfl⟩
end Go.Proofs.Ytapofbiflkfocaa.Cr
