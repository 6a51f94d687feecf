/- fault: Links of a chain. -/
import Derived.Test.YtkhnjgadagkpjaaDoorF3
import Derived.RangeFuncBox
import Derived.Deep.RegionHeld3
import Derived.Deep.AppendLies
import Derived.Deep.RegionLaw
import Derived.OwnWalk
import Derived.IntWalk
namespace Go.Proofs.YtkhnjgadagkpjaaDoor.Flt
open Go Go.RowKit Go.Stop
theorem info53 : (Tryd.prog.info? 53).map (fun i => (i.zero, i.size, i.bytes)) = some (some (.agg #[.int .i64 0, .int .u32 0]), 2, 16) := by kernel_rfl
def lflat (L : List (Int × Int)) : List Value := L.flatMap fun l => [.int .i64 l.1, .int .u32 l.2]
theorem lflat_app (L : List (Int × Int)) (l : Int × Int) : lflat (L ++ [l]) = lflat L ++ [.int .i64 l.1, .int .u32 l.2] := by simp [lflat]
theorem lnew (a c : Int) (w : World) (T : TypeId) : ∀ j u, ([.int .i64 a, .int .u32 c] : List Value)[j]? = some u → (w.alloc (.cells #[.int .i64 a, .int .u32 c] T)).cell? ((⟨w.heap.size, 0, none⟩ : Addr).add j) = some u := by
  intro j u h
  match j, h with
  | 0, h => simp at h; subst h; simp [Addr.add, go_sem]
  | 1, h => simp at h; subst h; simp [Addr.add, go_sem]
  | j + 2, h => simp at h
theorem lone (a c : Int) : ∀ u ∈ ([.int .i64 a, .int .u32 c] : List Value), u.oneCell' = true := by
  intro u hu
  simp at hu
  rcases hu with rfl | rfl <;> rfl
theorem far_row {W : World} {p : Nat} {A : Array Value} {t e : TypeId} {k0 : Nat × Nat} (h : W.heap[p]? = some (.cells A t k0)) (hte : t ≠ e) {base size k : Nat} {v : Value} {xs : List Value} (hr : W.ownsRow base e size v k xs) : some p ≠ v.ownBlock := by
  rcases hr.2 with ⟨rfl, _⟩ | ⟨g, cap, cur, rfl, _, hgb, _⟩
  · simp [Value.ownBlock]
  · intro e'
    obtain rfl : p = g := by simpa [Value.ownBlock] using e'
    rw [h] at hgb; cases hgb; exact hte rfl
def At (p : Nat) (a c : Int) (B : Nat) (v : Value) (w' : World) : Prop := w'.cell? ⟨p, 0, none⟩ = some (.int .i64 a) ∧ w'.cell? ⟨p, 1, none⟩ = some (.int .u32 c) ∧ w'.cell? ⟨B, 0, none⟩ = some v ∧ w'.frozen? ⟨B, 0, none⟩ = false
theorem at_made {w : World} {p : Nat} {a c : Int} {B : Nat} {v : Value} {o : Obj} (c0 : w.cell? ⟨p, 0, none⟩ = some (.int .i64 a)) (c1 : w.cell? ⟨p, 1, none⟩ = some (.int .u32 c)) (zp : p < w.heap.size) (hv : Boxed w B 33 v) : At p a c B v (w.alloc o).drew :=
  have h0 : (w.alloc o).cell? ⟨p, 0, none⟩ = some (.int .i64 a) := ((World.grownBy_alloc w o none).cell_far ⟨p, 0, none⟩ zp (by simp)).trans c0
  have h1 : (w.alloc o).cell? ⟨p, 1, none⟩ = some (.int .u32 c) := ((World.grownBy_alloc w o none).cell_far ⟨p, 1, none⟩ zp (by simp)).trans c1
  ⟨h0, h1, (hv.alloc o).cell, (hv.alloc o).frozen⟩
theorem at_grown {w w3 : World} {p : Nat} {a c : Int} {B : Nat} {v : Value} {o : Obj} {row : Option Nat} (h : At p a c B v (w.alloc o).drew) (hg : (w.alloc o).drew.grownBy w3 row) (zp : p < w.heap.size) (hp : some p ≠ row) (hB : some B ≠ row) (zB : B < w.heap.size) : At p a c B v w3 := by
  have zz : (w.alloc o).drew.heap.size = w.heap.size + 1 := by show (w.alloc o).heap.size = _; simp
  obtain ⟨h0, h1, h2, h3⟩ := h
  exact ⟨(hg.cell_far ⟨p, 0, none⟩ (by rw [zz]; simp; omega) hp).trans h0, (hg.cell_far ⟨p, 1, none⟩ (by rw [zz]; simp; omega) hp).trans h1, (hg.cell_far ⟨B, 0, none⟩ (by rw [zz]; simp; omega) hB).trans h2, (hg.frozen_far ⟨B, 0, none⟩ (by rw [zz]; simp; omega) hB).trans h3⟩
theorem box_far {w W w3 : World} {B : Nat} {v : Value} {row : Option Nat} (hv : Boxed w B 33 v) (o : Obj) (hW : W.heap = (w.alloc o).heap) (hg : W.grownBy w3 row) (hne : some B ≠ row) : Boxed w3 B 33 v :=
  Boxed.kept (show W.heap[B]? = _ by rw [hW]; exact hv.alloc o) hg hne
set_option maxHeartbeats 1000000 in
theorem tell_link (p : Nat) (a c : Int) (u : Value) (B n₀ : Nat) (v : Value) (L : List (Int × Int)) (w : World)
    (hp : w.heap[p]? = some (.cells #[.int .i64 a, .int .u32 c, u] 55 (0, 0))) (hv : Boxed w B 33 v) (hown : w.ownsRow n₀ 53 2 v L.length (lflat L)) (hn : n₀ ≤ w.heap.size) (hB : n₀ ≤ B) (hL : L.length ≤ 1000) :
    Calls Tryd.prog 22 #[.pointer (some ⟨p, 0, none⟩), .pointer (some ⟨B, 0, none⟩)] w fun e w' => e = .returned (.tuple #[]) ∧
      ∃ v', Boxed w' B 33 v' ∧ w'.ownsRow n₀ 53 2 v' (L ++ [(a, c)]).length (lflat (L ++ [(a, c)])) ∧ Below n₀ w w' := by
  obtain ⟨i0, hi, hz0, hz1, hz2⟩ := info_parts info53
  obtain ⟨c0, c1, _⟩ := cells3 hp
  have hc := hv.cell
  have hf := hv.frozen
  have hc2 := (hv.alloc (.cells #[.int .i64 a, .int .u32 c] 53)).cell
  have HV := Lib.hid hv
  have HO := Lib.hid hown
  have HP := Lib.hid (far_row hp (by decide) hown)
  have HN := Lib.hid (hv.not_row (by decide) hown)
  have zp : p < w.heap.size := (Array.getElem?_eq_some_iff.1 hp).1
  clear hv hown hp
  go_enter Tryd.func22, Tryd.ntmps22
  go_region_law ((refine step_append_lies _ (by rfl) (.tmp 3) (.tmp 8) 33 (by rfl) n₀ 53 i0 _ 2 16 Tryd.underlying33 hi hz0 hz1 hz2 (by rfl) (by decide) _ L.length (lflat L) (by rfl) (HO.out.alloc _) ⟨w.heap.size, 0, none⟩ 1 1 [.int .i64 a, .int .u32 c] (by rfl) (by rfl) (lnew a c _ _) (lone a c) (by decide) (by unfold maxLen; omega) (by omega) (by simp; omega) (w.heap.size + 1) (by simp) ?_; intro g cap w3 hown3 hgrow3 hat hlt; have hv1 := box_far HV.out (.cells #[.int .i64 a, .int .u32 c] 53) (by rfl) hgrow3 HN.out; have hc1 := hv1.cell; have hf1 := hv1.frozen))
  all_goals
    go_end0
    have hown4 : w3.ownsRow n₀ 53 2 (.slice (some ⟨g, 0, none⟩) (L.length + 1) cap) (L ++ [(a, c)]).length (lflat (L ++ [(a, c)])) := by rw [lflat_app, List.length_append]; exact hown3
    obtain ⟨_, h2, h3, _, h5⟩ := Boxed.appended (W := w.drew) (tmp := .cells #[.int .i64 a, .int .u32 c] 53) HV.out (by decide) HO.out.drew hn hB hown4 hgrow3
    exact ⟨rfl, _, h2, h3, (Below.refl n₀ w).drew.trans h5⟩
end Go.Proofs.YtkhnjgadagkpjaaDoor.Flt
