/- The sort of numbers: the choice of a pivot, walked. -/
import Derived.Test.YtgjjfodogkcmmaaS7
namespace Go.Proofs.Ytgjjfodogkcmmaa.So
open Go Go.RowKit
set_option maxRecDepth 100000 in
set_option maxHeartbeats 2000000 in
theorem choose_any (B g cap n a b : Nat) (f : Fn) (w : World) (h : Own w B g cap n f) (hn : n ≤ 1152921504606846975) (hab : a + 12 < b) (hb : b ≤ n) :
    Calls Try.prog 63 #[.slice (some ⟨g, 0, none⟩) n cap, .int .i64 a, .int .i64 b] w fun e w' => ∃ (x : Nat) (t : Int), e = .returned (.tuple #[.int .i64 x, .int .i64 t]) ∧ a ≤ x ∧ x < b ∧ Has w B g cap n f w' := by
  obtain ⟨L, hL⟩ : ∃ L, L = b - a := ⟨_, rfl⟩
  obtain ⟨q, hq⟩ : ∃ q, q = L / 4 := ⟨_, rfl⟩
  obtain ⟨i, hi⟩ : ∃ i, i = a + q := ⟨_, rfl⟩
  obtain ⟨j, hj⟩ : ∃ j, j = a + q * 2 := ⟨_, rfl⟩
  obtain ⟨k, hk⟩ : ∃ k, k = a + q * 3 := ⟨_, rfl⟩
  have kL : (b : Int) - (a : Int) = (L : Int) := by omega
  have kq : (L : Int) / 4 = (q : Int) := by omega
  have kt : (L : Int).tdiv 4 = (q : Int) := by rw [Int.tdiv_eq_ediv_of_nonneg (by omega)]; omega
  have ki : (a : Int) + (q : Int) = (i : Int) := by omega
  have kj : (a : Int) + (q : Int) * 2 = (j : Int) := by omega
  have kk : (a : Int) + (q : Int) * 3 = (k : Int) := by omega
  have k8 : (8 : Int) ≤ (L : Int) := by omega
  have k9 : (L : Int) ≤ 1152921504606846975 := by omega
  have b1 : (i : Int) ≤ 1152921504606846975 := by omega
  have b2 : (j : Int) ≤ 1152921504606846975 := by omega
  have b3 : (k : Int) ≤ 1152921504606846975 := by omega
  have HI : Hid (a + 3 ≤ i ∧ i + 3 ≤ j ∧ j + 3 ≤ k ∧ k < b ∧ k + 3 ≤ n + (n - b) + 3 ∧ (50 ≤ L → k + 1 < b)) := Lib.hid (by omega)
  have hg := h.lt
  have H0 := Lib.hid (show Own (w.alloc (.cells #[.int .i64 0] 3)) B g cap n f from h.on (G := fun _ => False) (.of_grown (World.grownBy_alloc w _ none) (fun k e => by cases e)) id)
  have C0 := Lib.hid (show Cnt (w.alloc (.cells #[.int .i64 0] 3)) w.heap.size 0 from heap_alloc_new w _)
  have T0 := Lib.hid (show ∀ w', Turned (fun i => i = w.heap.size) (w.alloc (.cells #[.int .i64 0] 3)) w' → Turned (fun k => k = g) w w' from fun w' ht => (Turned.of_grown (World.grownBy_alloc w (.cells #[.int .i64 0] 3) none) (fun k e => by cases e)).trans ht (fun i hi => .inr (by omega)))
  have hpg : w.heap.size ≠ g := by omega
  have HP := Lib.hid hpg
  have HL := Lib.hid (And.intro hL (And.intro hq (And.intro hi (And.intro hj hk))))
  clear hL hq hi hj hk h hpg
  by_cases h50 : 50 ≤ L
  · have k50 : (50 : Int) ≤ (L : Int) := by omega
    have H50 := Lib.hid h50
    clear h50
    go_enter Try.func63, Try.ntmps63
    go_wp2_with (fail)
    refine (adj_any B g cap n i w.heap.size 0 f _ H0.out C0.out HP.out hn (by have := HI.out; omega) (by have := HI.out; omega) (by omega)).mono ?_
    rintro e w1 ⟨x1, rfl, hx1, c1, hl1, hc1, ht1⟩
    have H1 := Lib.hid (And.intro hx1 (And.intro hc1 (And.intro (H0.out.on ht1 HP.out.symm) ht1)))
    clear hx1 hc1 ht1
    go_wp2_with (fail)
    refine (adj_any B g cap n j w.heap.size c1 f _ H1.out.2.2.1 H1.out.2.1 HP.out hn (by have := HI.out; omega) (by have := HI.out; omega) (by omega)).mono ?_
    rintro e w2 ⟨x2, rfl, hx2, c2, hl2, hc2, ht2⟩
    have H2 := Lib.hid (And.intro hx2 (And.intro hc2 (And.intro (H1.out.2.2.1.on ht2 HP.out.symm) (H1.out.2.2.2.then ht2))))
    clear hx2 hc2 ht2
    go_wp2_with (fail)
    refine (adj_any B g cap n k w.heap.size c2 f _ H2.out.2.2.1 H2.out.2.1 HP.out hn (by have := HI.out; have := H50.out; omega) (by have := HI.out; omega) (by omega)).mono ?_
    rintro e w3 ⟨x3, rfl, hx3, c3, hl3, hc3, ht3⟩
    have H3 := Lib.hid (And.intro hx3 (And.intro hc3 (And.intro (H2.out.2.2.1.on ht3 HP.out.symm) (H2.out.2.2.2.then ht3))))
    clear hx3 hc3 ht3
    go_wp2_with (fail)
    refine (median_any B g cap n x1 x2 x3 w.heap.size c3 f _ H3.out.2.2.1 H3.out.2.1 HP.out (by have := HI.out; have := H1.out.1; omega) (by have := HI.out; have := H2.out.1; omega) (by have := HI.out; have := H50.out; have := H3.out.1; omega) (by omega)).mono ?_
    rintro e w4 ⟨x4, rfl, hx4, c4, hl4, hc4, ht4⟩
    have H4 := Lib.hid (And.intro (show a ≤ x4 ∧ x4 < b by have := HI.out; have := H50.out; have := H1.out.1; have := H2.out.1; have := H3.out.1; omega) (And.intro (H3.out.2.2.1.on ht4 HP.out.symm) (T0.out _ (H3.out.2.2.2.then ht4))))
    have k4 := hc4.cell
    clear hx4 hc4 ht4
    go_wp2_with (fail)
    all_goals go_ret2
    all_goals exact ⟨x4, _, rfl, H4.out.1.1, H4.out.1.2, H4.out.2⟩
  · have k50 : (L : Int) < 50 := by omega
    go_enter Try.func63, Try.ntmps63
    go_wp2_with (fail)
    refine (median_any B g cap n i j k w.heap.size 0 f _ H0.out C0.out HP.out (by have := HI.out; omega) (by have := HI.out; omega) (by have := HI.out; omega) (by omega)).mono ?_
    rintro e w4 ⟨x4, rfl, hx4, c4, hl4, hc4, ht4⟩
    have H4 := Lib.hid (And.intro (show a ≤ x4 ∧ x4 < b by have := HI.out; omega) (And.intro (H0.out.on ht4 HP.out.symm) (T0.out _ ht4)))
    have k4 := hc4.cell
    clear hx4 hc4 ht4
    go_wp2_with (fail)
    all_goals go_ret2
    all_goals exact ⟨x4, _, rfl, H4.out.1.1, H4.out.1.2, H4.out.2⟩
end Go.Proofs.Ytgjjfodogkcmmaa.So
