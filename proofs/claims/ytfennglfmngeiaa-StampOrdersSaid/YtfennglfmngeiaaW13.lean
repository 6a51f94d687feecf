/- Eldest and stamps in one form each; the rows that are appended. -/
import Derived.Test.YtfennglfmngeiaaW8
import Derived.Test.YtfennglfmngeiaaW11
import Derived.Carry
namespace Go.Proofs.Ytfennglfmngeiaa.St
open Go Go.RowKit Go.Sort
theorem Qs.pre {w : World} {ao : Option Addr} {l m : List Q} (h : Qs w ao (l ++ m)) : Qs w ao l := by
  intro i hi
  have hk := h i (by rw [List.length_append]; omega)
  have e : (l ++ m).getD i q0 = l.getD i q0 := by
    rw [List.getD_eq_getElem?_getD, List.getD_eq_getElem?_getD, List.getElem?_append_left hi]
  simp only [e] at hk
  exact hk
theorem stamps_q (ao : Option Addr) (n c : Nat) (l : List Q) (w : World) (hn : n ≤ 1000) (hl : l.length = n) (ha : Qs w ao l) :
    Calls Try.prog 15 #[.slice ao n c] w fun e w' => ∃ g cap, e = .returned (.slice (some ⟨g, 0, none⟩) n cap) ∧ Qs w' (some ⟨g, 0, none⟩) l ∧ Below w.heap.size w w' :=
  (stamps_any ao n c l w hn hl ha).mono fun _ _ ⟨g, cap, he, ho, hb⟩ => ⟨g, cap, he, (Own.qs ho).pre, hb⟩
theorem eldest_q (ao : Option Addr) (n c : Nat) (l : List Q) (w : World) (hn : n ≤ maxLen) (hl : l.length = n) (ha : Qs w ao l) (z : Bool) (hz : z = decide (0 < n)) :
    Calls Try.prog 17 #[.slice ao n c] w fun e w' => e = .returned (.tuple #[aggQ (minQ l), .bool z]) ∧ Below w.heap.size w w' := by
  subst hz
  by_cases h0 : 0 < n
  · rw [decide_eq_true h0]
    exact eldest_some ao n c l w hn hl h0 ha
  · obtain rfl : n = 0 := by omega
    obtain rfl : l = [] := List.length_eq_zero_iff.1 hl
    exact eldest_none ao c w
theorem own_or (v : Value) : v.ownBlock = none ∨ v.ownBlock ≠ none := by cases v.ownBlock <;> simp
theorem grown_of_below {a w : World} (h : Below a.heap.size a w) : a.grownBy w none := ⟨h.os, h.tape, h.output, h.size, fun i hi _ => h.block i hi⟩
theorem row_on {w w' : World} {B e n : Nat} {v : Value} {xs : List Value} (h : w.ownsRow B e 4 v n xs) (hb : Below w.heap.size w w') : w'.ownsRow B e 4 v n xs := World.ownsRow.kept h (grown_of_below hb) (own_or v)
theorem Qs.of_row {w : World} {B e g n cap : Nat} {l : List Q} (h : w.ownsRow B e 4 (.slice (some ⟨g, 0, none⟩) n cap) n (flat l)) (hl : l.length = n) : Qs w (some ⟨g, 0, none⟩) l := by
  subst hl
  exact Own.qs (show Own w B e (.slice (some ⟨g, 0, none⟩) l.length cap) l from h)
end Go.Proofs.Ytfennglfmngeiaa.St
