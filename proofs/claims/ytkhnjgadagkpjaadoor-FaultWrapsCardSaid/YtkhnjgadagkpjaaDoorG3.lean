/- fault: Is, walked. -/
import Derived.Test.YtkhnjgadagkpjaaDoorG2
import Derived.RangeFuncBox
import Derived.RangeFuncWrites
namespace Go.Proofs.YtkhnjgadagkpjaaDoor.Flt
open Go Go.RowKit Go.Stop Go.Shelf
attribute [local go_sem] Oper.semAt_some
/-- A cell of the loop's own, as it stands between two rounds. -/
theorem kept_cell {B b : Nat} {v : Value} {A A' : World} {row : Option Nat} (hb : b < B) (hc : A.cell? ⟨b, 0, none⟩ = some v ∧ A.frozen? ⟨b, 0, none⟩ = false) (hg : A.grownBy A' row) (hr : ∀ r, row = some r → B ≤ r) : A'.cell? ⟨b, 0, none⟩ = some v ∧ A'.frozen? ⟨b, 0, none⟩ = false := by
  have hne : some b ≠ row := fun e => by have := hr b e.symm; omega
  exact ⟨hg.cell hc.1 hne, (hg.frozen_far ⟨b, 0, none⟩ (World.block_lt_of_cell? _ _ hc.1) hne).trans hc.2⟩
/-- Between two rounds: what is asked for, the answer's cell, and that none was it. -/
def IsI (s : Nat) (w : World) (c : Int) (pre : List Int) (W : World) : Prop :=
  (W.cell? ⟨s, 0, none⟩ = some (.int .i64 c) ∧ W.frozen? ⟨s, 0, none⟩ = false) ∧ (W.cell? ⟨s + 1, 0, none⟩ = some (.bool false) ∧ W.frozen? ⟨s + 1, 0, none⟩ = false) ∧ (∀ y ∈ pre, (y == c) = false) ∧ Below s w W
/-- Behind the round that has found it. -/
def IsX (s : Nat) (w : World) (c : Int) (j : Code) (pre : List Int) (W : World) : Prop :=
  j = .ret ∧ (W.cell? ⟨s + 1, 0, none⟩ = some (.bool true) ∧ W.frozen? ⟨s + 1, 0, none⟩ = false) ∧ (∃ y ∈ pre, (y == c) = true) ∧ Below s w W
theorem isI_own (s : Nat) (w : World) (c : Int) (B : Nat) (hB : s + 2 ≤ B) : OwnFrom B (IsI s w c) := by
  intro pre A A' row ⟨h1, h2, h3, h4⟩ hg hr
  have hr' := fun r e => (hr r e).1
  exact ⟨kept_cell (by omega : s < B) h1 hg hr', kept_cell (by omega : s + 1 < B) h2 hg hr', h3, h4.grown hg (Nat.le_of_lt (World.block_lt_of_cell? _ _ h1.1)) (fun k e => by have := hr' k e; omega)⟩
theorem isX_own (s : Nat) (w : World) (c : Int) (B : Nat) (hB : s + 2 ≤ B) (j : Code) : OwnFrom B (IsX s w c j) := by
  intro pre A A' row ⟨h1, h2, h3, h4⟩ hg hr
  have hr' := fun r e => (hr r e).1
  exact ⟨h1, kept_cell (by omega : s + 1 < B) h2 hg hr', h3, h4.grown hg (by have := World.block_lt_of_cell? _ _ h2.1; simp at this; omega) (fun k e => by have := hr' k e; omega)⟩
theorem new_at (w : World) (k : Nat) (hk : w.heap.size = k) (v : Value) (t : TypeId) : (w.alloc (.cells #[v] t)).cell? ⟨k, 0, none⟩ = some v ∧ (w.alloc (.cells #[v] t)).frozen? ⟨k, 0, none⟩ = false := by
  subst hk
  exact ⟨by rw [World.cell?_alloc_new]; rfl, World.frozen?_alloc_new _ _ _ _⟩
theorem old_at {w : World} {k : Nat} {v : Value} (h : w.cell? ⟨k, 0, none⟩ = some v ∧ w.frozen? ⟨k, 0, none⟩ = false) (o : Obj) : (w.alloc o).cell? ⟨k, 0, none⟩ = some v ∧ (w.alloc o).frozen? ⟨k, 0, none⟩ = false := by
  have hb := World.block_lt_of_cell? w ⟨k, 0, none⟩ h.1
  exact ⟨(World.cell?_alloc_past o k 0 hb).trans h.1, (World.frozen?_alloc_past o k 0 hb).trans h.2⟩
set_option maxRecDepth 100000 in
set_option maxHeartbeats 2000000 in
theorem is_chain (v : Value) (L : List (Int × Int)) (r c : Int) (w : World) (h : Chain w v L r) (hc : (c == 0) = false) :
    Calls Tryd.prog 9 #[v, .int .i64 c] w fun e w' => e = .returned (.bool (r == c)) ∧ Below w.heap.size w w' := by
  obtain ⟨t, x, rfl⟩ := chain_some h
  have H := Lib.hid h
  clear h
  refine (callsIn_wide (n := 3)).1 ?_
  refine callsIn_of_wp_marks Tryd.func9 rfl trivial ?_ rfl
  simp only [Tryd.ntmps9, List.size_toArray, List.length_cons, List.length_nil, Nat.reduceAdd, Nat.reduceSub, Array.replicate_succ, Array.replicate_zero, List.push_toArray, List.append_toArray, List.nil_append, List.cons_append]
  gi_wp2
  refine ⟨trivial, (callsIn_wide.2 (roots_made _ _)).mono ?_⟩
  rintro e w1 ⟨rfl, rfl⟩
  gi_wp2
  obtain ⟨W0, hW0⟩ : ∃ W0, (((w.alloc (.cells #[.int .i64 c] 30)).alloc (.cells #[.bool false] 4)).alloc (.cells #[.iface t x] 27)).alloc (.cells #[.slice (some ⟨w.heap.size + 1 + 1, 0, none⟩) 1 1] 69) = W0 := ⟨_, rfl⟩
  have hs0 : W0.heap.size = w.heap.size + 4 := by rw [← hW0]; simp
  have hB0 : Below w.heap.size w W0 := by rw [← hW0]; exact ((((Below.refl _ w).alloc (Nat.le_refl _) _).alloc (by simp) _).alloc (by simp; omega) _).alloc (by simp; omega) _
  have c0 : W0.cell? ⟨w.heap.size, 0, none⟩ = some (.int .i64 c) ∧ W0.frozen? ⟨w.heap.size, 0, none⟩ = false := by rw [← hW0]; exact old_at (old_at (old_at (new_at w _ rfl _ _) _) _) _
  have c1 : W0.cell? ⟨w.heap.size + 1, 0, none⟩ = some (.bool false) ∧ W0.frozen? ⟨w.heap.size + 1, 0, none⟩ = false := by rw [← hW0]; exact old_at (old_at (new_at _ _ (by simp) _ _) _) _
  have c2 : W0.cell? ⟨w.heap.size + 2, 0, none⟩ = some (.iface t x) := by rw [← hW0]; exact (old_at (new_at _ _ (by simp) _ _) _).1
  have c3 : W0.cell? ⟨w.heap.size + 3, 0, none⟩ = some (.slice (some ⟨w.heap.size + 2, 0, none⟩) 1 1) := by rw [← hW0]; exact (new_at _ _ (by simp) _ _).1
  rw [hW0]
  clear hW0
  refine wpIn_rangeFunc_ownG rfl (by decide) (gf := 34) (lb := #[.pointer (some ⟨w.heap.size + 3, 0, none⟩)]) rfl trivial (enters_of Tryd.func34 (by kernel_rfl) rfl)
    (roots_stops 2 (by decide) (w.heap.size + 3) (w.heap.size + 2) w.heap.size t x L r W0 (by omega) c3 (by omega) c2 (H.out.on hB0 (Nat.le_refl _))) belowK_t (belowK_b (by omega)) (Below.refl _ _) (fun _ => rfl)
    (IsI w.heap.size w c) (IsX w.heap.size w c) (isI_own _ _ _ _ (by omega)) (fun j => isX_own _ _ _ _ (by omega) j)
    ⟨c0, c1, by simp, hB0⟩
    (fun y => { tmps := #[.iface t x, .int .i64 c, undef, .pointer (some ⟨w.heap.size, 0, none⟩), .pointer (some ⟨w.heap.size + 1, 0, none⟩), .iface 30 (.int .i64 y), .iface t x, .bool false, .bool false, .int .i64 c, .bool false, .bool false, undef, undef, undef, undef, undef, undef, .iface t x, .slice (some ⟨w.heap.size + 1 + 1, 0, none⟩) 1 1, .func (.func 34) #[] #[.pointer (some ⟨w.heap.size + 1 + 1 + 1, 0, none⟩)], .iface 30 (.int .i64 y), undef, undef, undef], defers := [] }) ?assign ?body ?done ?stop
  case assign =>
    intro l x W K hK
    gi_wp2
    exact hK
  case body =>
    rintro l pre y W ⟨h1, h2, h3, h4⟩ hlt
    obtain ⟨h1, h1f⟩ := h1
    obtain ⟨h2, h2f⟩ := h2
    gi_wp2
    refine ⟨trivial, (CallsIn.inRound l (callsIn_wide.2 (isCode_errno y c W))).mono ?_⟩
    rintro e W1 ⟨rfl, hb⟩
    have hk : KeepsFrom W0.heap.size W W1 := KeepsFrom.of_grownBy (grown_of_below hb) (fun j e => by cases e)
    have hs1 := World.block_lt_of_cell? W ⟨w.heap.size + 1, 0, none⟩ h2
    have h0' := World.block_lt_of_cell? W ⟨w.heap.size, 0, none⟩ h1
    have hW : w.heap.size ≤ W.heap.size := h4.size
    have g1 : W1.cell? ⟨w.heap.size, 0, none⟩ = some (.int .i64 c) ∧ W1.frozen? ⟨w.heap.size, 0, none⟩ = false := ⟨(hb.cell (p := ⟨w.heap.size, 0, none⟩) h0').trans h1, (hb.frozen (p := ⟨w.heap.size, 0, none⟩) h0').trans h1f⟩
    have g2 : W1.cell? ⟨w.heap.size + 1, 0, none⟩ = some (.bool false) ∧ W1.frozen? ⟨w.heap.size + 1, 0, none⟩ = false := ⟨(hb.cell (p := ⟨w.heap.size + 1, 0, none⟩) hs1).trans h2, (hb.frozen (p := ⟨w.heap.size + 1, 0, none⟩) hs1).trans h2f⟩
    have h5 := h4.trans (hb.mono hW)
    have HG := Lib.hid (And.intro g1 g2)
    obtain ⟨g2, g2f⟩ := g2
    obtain ⟨g1, g1f⟩ := g1
    obtain ⟨z, hz⟩ : ∃ z, z = (y == c) := ⟨_, rfl⟩
    rw [← hz]
    have HZ := Lib.hid hz
    clear hz
    cases z
    · gi_wp2
      exact ⟨hk, hb.mono hW, HG.out.1, HG.out.2, by
        intro q hq
        rcases List.mem_append.1 hq with hq | hq
        · exact h3 q hq
        · rw [List.mem_singleton.1 hq]; exact HZ.out.symm, h5⟩
    · gi_wp2
      exact ⟨hk.trans ((KeepsOthers.setCell _ _ _).from _), rfl, ⟨World.cell?_setCell_same _ _ _ g2, (World.frozen?_setCell _ _ _ _).trans g2f⟩, ⟨y, by simp, HZ.out.symm⟩, h5.setCell (p := ⟨w.heap.size + 1, 0, none⟩) (by simp) _⟩
  case done =>
    rintro D ys W hD rfl ⟨_, h2, h3, h4⟩ hK
    have h3' : (r == c) = false := h3 r (by simp)
    obtain ⟨h2, h2f⟩ := h2
    gi_wp2
    have hK' : (W.setCell ⟨w.heap.size + 1, 0, none⟩ (.bool false)).heap[D]? = some (.deferred (some [])) := (KeepsOthers.setCell W ⟨w.heap.size + 1, 0, none⟩ (.bool false)).same D _ hK rfl
    refine ⟨by simp, .inl ⟨_, _, rfl, run_takeDeferred hK', ?_⟩⟩
    have hD' : w.heap.size + 1 ≠ D := by omega
    have hc5 : ((W.setCell ⟨w.heap.size + 1, 0, none⟩ (.bool false)).putObj D (.deferred none)).cell? ⟨w.heap.size + 1, 0, none⟩ = some (.bool false) :=
      (World.cell?_of_block (World.putObj_heap_other (k := w.heap.size + 1) hD')).trans (World.cell?_setCell_same _ _ _ h2)
    refine ⟨.bool false, ?_, by rw [h3'], ?_⟩
    · simp [results, Tryd.results9, go_sem, hc5]
    · exact (h4.setCell (p := ⟨w.heap.size + 1, 0, none⟩) (by simp) _).trans (belowK_b (w := w) (Nat.le_refl _) _ D _ _ (by omega) hK' rfl rfl)
  case stop =>
    rintro D j pre W hD hp ⟨rfl, h2, ⟨y, hy, hyc⟩, h4⟩ hK
    have hyr : y = r := by
      have := hp.subset hy
      simpa using this
    subst hyr
    obtain ⟨h2, h2f⟩ := h2
    gi_wp2
    refine ⟨by simp, .inl ⟨_, _, rfl, run_takeDeferred hK, ?_⟩⟩
    have hD' : w.heap.size + 1 ≠ D := by omega
    have hc5 : (W.putObj D (.deferred none)).cell? ⟨w.heap.size + 1, 0, none⟩ = some (.bool true) :=
      (World.cell?_of_block (World.putObj_heap_other (k := w.heap.size + 1) hD')).trans h2
    refine ⟨.bool true, ?_, by rw [hyc], ?_⟩
    · simp [results, Tryd.results9, go_sem, hc5]
    · exact h4.trans (belowK_b (w := w) (Nat.le_refl _) _ D _ _ (by omega) hK rfl rfl)
end Go.Proofs.YtkhnjgadagkpjaaDoor.Flt
