/- The sort of numbers: a pivot is chosen, walked. -/
import Derived.Test.YtgjjfodogkcmmaaS4
namespace Go.Proofs.Ytgjjfodogkcmmaa.So
open Go Go.RowKit
/-- A count in a block of its own. -/
def Cnt (w : World) (p c : Nat) : Prop := w.heap[p]? = some (.cells #[.int .i64 c] 3 (0, 0))
theorem Cnt.cell {w : World} {p c : Nat} (h : Cnt w p c) : w.cell? ⟨p, 0, none⟩ = some (.int .i64 c) := by simp [World.cell?, show w.heap[p]? = _ from h]
theorem Cnt.free {w : World} {p c : Nat} (h : Cnt w p c) : w.frozen? ⟨p, 0, none⟩ = false := by simp [World.frozen?, show w.heap[p]? = _ from h]
theorem Cnt.set {w : World} {p c : Nat} (h : Cnt w p c) (d : Nat) : Cnt (w.setCell ⟨p, 0, none⟩ (.int .i64 d)) p d := by
  have := heap_setCell_same w p 0 #[.int .i64 c] 3 (.int .i64 d) h
  simpa [Cnt] using this
def Two (w : World) (p c k : Nat) (w' : World) : Prop := ∃ c', c' ≤ c + k ∧ Cnt w' p c' ∧ Turned (fun i => i = p) w w'
theorem order2_any (B g cap n a b p c : Nat) (f : Fn) (w : World) (h : Own w B g cap n f) (hc : Cnt w p c) (ha : a < n) (hb : b < n) (hcc : c ≤ 1000) :
    Calls Try.prog 84 #[.slice (some ⟨g, 0, none⟩) n cap, .int .i64 a, .int .i64 b, .pointer (some ⟨p, 0, none⟩)] w fun e w' => ∃ x y : Nat, e = .returned (.tuple #[.int .i64 x, .int .i64 y]) ∧ ((x = a ∧ y = b) ∨ (x = b ∧ y = a)) ∧ Two w p c 1 w' := by
  have c1 := h.cell ha
  have c2 := h.cell hb
  generalize f a = x at c1
  generalize f b = y at c2
  have cp := hc.cell
  have ep := hc.free
  have HC := Lib.hid hc
  clear h hc
  have k1 : (a : Int) < (n : Int) := by omega
  have k2 : (b : Int) < (n : Int) := by omega
  go_enter Try.func84, Try.ntmps84
  go_wp2
  go_quiet (first | (go_at_call 66; refine Calls.quiet_of_same (less_any _ _ _)))
  go_wp2
  · go_ret2
    refine ⟨b, a, rfl, .inr ⟨rfl, rfl⟩, c + 1, Nat.le_refl _, ?_, (turned_drewN _ _ _).then (turned_set _ _ _ _)⟩
    exact Cnt.set (w := w.drewN nq) HC.out (c + 1)
  · go_ret2
    exact ⟨a, b, rfl, .inl ⟨rfl, rfl⟩, c, by omega, HC.out, turned_drewN _ _ _⟩
theorem Two.trans {w w1 w2 : World} {p c k l : Nat} (h : Two w p c k w1) (h2 : ∀ c', c' ≤ c + k → Cnt w1 p c' → Two w1 p c' l w2) : Two w p c (k + l) w2 := by
  obtain ⟨c1, l1, k1, t1⟩ := h
  obtain ⟨c2, l2, k2, t2⟩ := h2 c1 l1 k1
  exact ⟨c2, by omega, k2, t1.then t2⟩
set_option maxRecDepth 100000 in
theorem median_any (B g cap n a b d p c : Nat) (f : Fn) (w : World) (h : Own w B g cap n f) (hc : Cnt w p c) (hpg : p ≠ g) (ha : a < n) (hb : b < n) (hd : d < n) (hcc : c ≤ 100) :
    Calls Try.prog 80 #[.slice (some ⟨g, 0, none⟩) n cap, .int .i64 a, .int .i64 b, .int .i64 d, .pointer (some ⟨p, 0, none⟩)] w fun e w' => ∃ x : Nat, e = .returned (.int .i64 x) ∧ (x = a ∨ x = b ∨ x = d) ∧ Two w p c 3 w' := by
  have H := Lib.hid h
  have HC := Lib.hid hc
  have HP := Lib.hid hpg
  clear h hc hpg
  go_enter Try.func80, Try.ntmps80
  go_wp2_with (fail)
  refine (order2_any B g cap n a b p c f w H.out HC.out ha hb (by omega)).mono ?_
  rintro e w1 ⟨x1, y1, rfl, hx1, c1, hl1, hc1, ht1⟩
  have H1 := Lib.hid (And.intro hx1 (And.intro hc1 (And.intro (H.out.on ht1 HP.out.symm) ht1)))
  clear hx1 hc1 ht1
  go_wp2_with (fail)
  refine (order2_any B g cap n y1 d p c1 f w1 H1.out.2.2.1 H1.out.2.1 (by have := H1.out.1; omega) hd (by omega)).mono ?_
  rintro e w2 ⟨x2, y2, rfl, hx2, c2, hl2, hc2, ht2⟩
  have H2 := Lib.hid (And.intro hx2 (And.intro hc2 (And.intro (H1.out.2.2.1.on ht2 HP.out.symm) (H1.out.2.2.2.then ht2))))
  clear hx2 hc2 ht2
  go_wp2_with (fail)
  refine (order2_any B g cap n x1 x2 p c2 f w2 H2.out.2.2.1 H2.out.2.1 (by have := H1.out.1; omega) (by have := H1.out.1; have := H2.out.1; omega) (by omega)).mono ?_
  rintro e w3 ⟨x3, y3, rfl, hx3, c3, hl3, hc3, ht3⟩
  have H3 := Lib.hid (And.intro hx3 (And.intro hc3 (H2.out.2.2.2.then ht3)))
  clear hx3 hc3 ht3
  go_wp2_with (fail)
  go_ret
  exact ⟨y3, rfl, by have := H1.out.1; have := H2.out.1; have := H3.out.1; omega, c3, by omega, H3.out.2.1, H3.out.2.2⟩
set_option maxRecDepth 100000 in
theorem adj_any (B g cap n a p c : Nat) (f : Fn) (w : World) (h : Own w B g cap n f) (hc : Cnt w p c) (hpg : p ≠ g) (hn : n ≤ 1152921504606846975) (ha : a + 1 < n) (ha1 : 1 ≤ a) (hcc : c ≤ 100) :
    Calls Try.prog 79 #[.slice (some ⟨g, 0, none⟩) n cap, .int .i64 a, .pointer (some ⟨p, 0, none⟩)] w fun e w' => ∃ x : Nat, e = .returned (.int .i64 x) ∧ (a - 1 ≤ x ∧ x ≤ a + 1) ∧ Two w p c 3 w' := by
  obtain ⟨a, rfl⟩ : ∃ a', a = a' + 1 := ⟨a - 1, by omega⟩
  have H := Lib.hid (median_any B g cap n a (a + 1) (a + 2) p c f w h hc hpg (by omega) (by omega) (by omega) hcc)
  clear h hc hpg
  go_enter Try.func79, Try.ntmps79
  go_wp2_with (first | (go_at_call 80; refine H.out.mono ?_; rintro e w1 ⟨x, rfl, hx, ht⟩; have H1 := Lib.hid (And.intro hx ht); clear hx ht))
  go_ret
  exact ⟨x, rfl, by have := H1.out.1; omega, H1.out.2⟩
end Go.Proofs.Ytgjjfodogkcmmaa.So
