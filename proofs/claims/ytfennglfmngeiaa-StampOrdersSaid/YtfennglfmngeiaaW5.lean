/- The law on causes: the callback, walked. -/
import Derived.Test.YtfennglfmngeiaaW4
namespace Go.Proofs.Ytfennglfmngeiaa.St
open Go Go.RowKit Go.Sort
/-- Clocks: a row of n pointers at block X, held in the box X + 1; the i-th clock is block X + 2 + i and shows a number of at most M. -/
structure Clk (w : World) (X n : Nat) (M : Int) : Prop where
  box : w.cell? ⟨X + 1, 0, none⟩ = some (.slice (some ⟨X, 0, none⟩) n n)
  ptr : ∀ i, i < n → w.cell? ⟨X, i, none⟩ = some (.pointer (some ⟨X + 2 + i, 0, none⟩))
  num : ∀ i, i < n → ∃ v : Int, 0 ≤ v ∧ v ≤ M ∧ w.cell? ⟨X + 2 + i, 0, none⟩ = some (.int .u64 v) ∧ w.frozen? ⟨X + 2 + i, 0, none⟩ = false
  size : X + 2 + n ≤ w.heap.size
/-- Nothing but the clocks has turned. -/
structure Fr (X n : Nat) (w w' : World) : Prop where
  size : w.heap.size ≤ w'.heap.size
  cell : ∀ b o, b < w.heap.size → (b < X + 2 ∨ X + 2 + n ≤ b) → w'.cell? ⟨b, o, none⟩ = w.cell? ⟨b, o, none⟩
  frozen : ∀ b o, b < w.heap.size → (b < X + 2 ∨ X + 2 + n ≤ b) → w'.frozen? ⟨b, o, none⟩ = w.frozen? ⟨b, o, none⟩
theorem cell_old {w : World} {b i : Nat} {u : Value} (h : w.cell? ⟨b, i, none⟩ = some u) {o : Obj} : (w.alloc o).cell? ⟨b, i, none⟩ = some u :=
  (World.cell?_alloc_past o b i (World.block_lt_of_cell? w ⟨b, i, none⟩ h)).trans h
theorem frozen_old {w : World} {b i : Nat} {u : Bool} (h : w.frozen? ⟨b, i, none⟩ = u) (hb : b < w.heap.size) {o : Obj} : (w.alloc o).frozen? ⟨b, i, none⟩ = u :=
  (World.frozen?_alloc_past o b i hb).trans h
theorem cell_set {w : World} {b i c j : Nat} {u v : Value} (h : w.cell? ⟨b, i, none⟩ = some u) (hne : b ≠ c) : (w.setCell ⟨c, j, none⟩ v).cell? ⟨b, i, none⟩ = some u :=
  (World.cell?_setCell_far w ⟨c, j, none⟩ ⟨b, i, none⟩ v (fun e => hne e.symm)).trans h
theorem Clk.on {w w' : World} {X n : Nat} {M M' : Int} (h : Clk w X n M) {B : Nat} (hb : Below B w w') (hB : w.heap.size ≤ B) (hM : M ≤ M') : Clk w' X n M' where
  box := (hb.cell (p := ⟨X + 1, 0, none⟩) (by have := h.size; simp; omega)).trans h.box
  ptr i hi := (hb.cell (p := ⟨X, i, none⟩) (by have := h.size; simp; omega)).trans (h.ptr i hi)
  num i hi := by
    obtain ⟨v, v0, v1, v2, v3⟩ := h.num i hi
    exact ⟨v, v0, by omega, (hb.cell (p := ⟨X + 2 + i, 0, none⟩) (by have := h.size; simp; omega)).trans v2, (hb.frozen (p := ⟨X + 2 + i, 0, none⟩) (by have := h.size; simp; omega)).trans v3⟩
  size := Nat.le_trans h.size hb.size
theorem Clk.set {w : World} {X n : Nat} {M M' : Int} (h : Clk w X n M) {i : Nat} (hi : i < n) {u : Int} (u0 : 0 ≤ u) (u1 : u ≤ M') (hM : M ≤ M') : Clk (w.setCell ⟨X + 2 + i, 0, none⟩ (.int .u64 u)) X n M' where
  box := cell_set h.box (by omega)
  ptr j hj := cell_set (h.ptr j hj) (by omega)
  num j hj := by
    obtain ⟨v, v0, v1, v2, v3⟩ := h.num j hj
    by_cases e : j = i
    · subst e
      exact ⟨u, u0, u1, World.cell?_setCell_same _ _ _ v2, (World.frozen?_setCell _ _ _ _).trans v3⟩
    · exact ⟨v, v0, by omega, cell_set v2 (by omega), (World.frozen?_setCell _ _ _ _).trans v3⟩
  size := by rw [World.size_setCell]; exact h.size
theorem Fr.of_below {w w' : World} (X n : Nat) {B : Nat} (hb : Below B w w') (hB : w.heap.size ≤ B) : Fr X n w w' :=
  ⟨hb.size, fun b o h _ => hb.cell (p := ⟨b, o, none⟩) (Nat.lt_of_lt_of_le h hB), fun b o h _ => hb.frozen (p := ⟨b, o, none⟩) (Nat.lt_of_lt_of_le h hB)⟩
theorem Fr.set {w w' : World} {X n i : Nat} {u : Value} (h : Fr X n w w') (hi : i < n) : Fr X n w (w'.setCell ⟨X + 2 + i, 0, none⟩ u) where
  size := by rw [World.size_setCell]; exact h.size
  cell b o hb hx := (World.cell?_setCell_far w' ⟨X + 2 + i, 0, none⟩ ⟨b, o, none⟩ u (by show X + 2 + i ≠ b; omega)).trans (h.cell b o hb hx)
  frozen b o hb hx := (World.frozen?_setCell _ _ _ _).trans (h.frozen b o hb hx)
theorem Fr.trans {w w' w'' : World} {X n : Nat} (h : Fr X n w w') (k : Fr X n w' w'') : Fr X n w w'' where
  size := Nat.le_trans h.size k.size
  cell b o hb hx := (k.cell b o (Nat.lt_of_lt_of_le hb h.size) hx).trans (h.cell b o hb hx)
  frozen b o hb hx := (k.frozen b o (Nat.lt_of_lt_of_le hb h.size) hx).trans (h.frozen b o hb hx)
theorem nx_small {v s : Int} (h0 : 0 ≤ v) (h1 : v ≤ 1000000) (k0 : 0 ≤ s) (k1 : s ≤ 1000000) : v < nx (max v s) ∧ s < nx (max v s) ∧ (nx (max v s) ≤ v + 1 ∨ nx (max v s) ≤ s + 1) := by
  unfold nx
  split <;> omega
theorem see_any (X n i : Nat) (M v : Int) (w : World) (hc : Clk w X n M) (hi : i < n) (v0 : 0 ≤ v) (v1 : v ≤ M) (hM : M ≤ 1000000) :
    Calls Try.prog 21 #[.agg #[.int .i64 i, .int .u64 v], .pointer (some ⟨X + 1, 0, none⟩)] w fun e w' => e = .returned (.bool true) ∧ Clk w' X n (M + 1) ∧ Fr X n w w' ∧ Below X w w' := by
  obtain ⟨s, s0, s1, hs, hfz⟩ := hc.num i hi
  have hb := hc.box
  have hp := hc.ptr i hi
  have hz := hc.size
  have HC := Lib.hid hc
  have hb1 := fun o => cell_old hb (o := o)
  have hp1 := fun o => cell_old hp (o := o)
  have hs1 := fun o => cell_old hs (o := o)
  have hf1 := fun o => frozen_old (o := o) (b := X + 2 + i) hfz (by omega)
  obtain ⟨n1, n2, n3⟩ := nx_small v0 (by omega) s0 (by omega)
  have cS := Lib.hid (fun w hc hf => see_at (X + 2 + i) s v w hc hf s0 (by omega) v0 (by omega))
  generalize nx (max v s) = u at *
  clear hc hb hp hs hfz
  go_enter Try.func21, Try.ntmps21
  go_wp2_with fail
  refine (now_at (X + 2 + i) s _ (hs1 _)).mono ?_
  rintro e w1 ⟨rfl, rfl⟩
  go_wp2_with fail
  go_region_held3 (fun w' => w'.cell? ⟨X + 1, 0, none⟩ = some (.slice (some ⟨X, 0, none⟩) n n) ∧ w'.cell? ⟨X, i, none⟩ = some (.pointer (some ⟨X + 2 + i, 0, none⟩)) ∧ w'.cell? ⟨w.heap.size, 0, none⟩ = some (.int .i64 i) ∧ w'.cell? ⟨w.heap.size, 1, none⟩ = some (.int .u64 v))
    (first | exact ⟨hb1 _, hp1 _, by simp, by simp⟩ | exact ⟨cell_set (hb1 _) (by omega), cell_set (hp1 _) (by omega), cell_set (by simp) (by omega), cell_set (by simp) (by omega)⟩)
    ((go_at_call 11; refine (cS.out _ (by exact hs1 _) (by exact hf1 _)).mono ?_; rintro e w1 ⟨rfl, rfl⟩))
  go_wp2_with fail
  go_ret
  have hB := ((Below.refl w.heap.size w).alloc (Nat.le_refl _) (.cells #[.int .i64 i, .int .u64 v] 54)).drew
  exact ⟨rfl, (HC.out.on hB (Nat.le_refl _) (Int.le_refl _)).set hi (by omega) (by omega) (by omega), (Fr.of_below X n hB (Nat.le_refl _)).set hi, ((hB.mono (by omega)).setCell (p := ⟨X + 2 + i, 0, none⟩) (by simp; omega) _)⟩
end Go.Proofs.Ytfennglfmngeiaa.St
