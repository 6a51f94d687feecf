/- The walk of Order: the elder of two stamps. -/
import Derived.Test.YtfennglfmngeiaaW2
import Derived.Sort.Grow
namespace Go.Proofs.Ytfennglfmngeiaa.St
open Go Go.RowKit Go.Sort
/-- A stamp's four numbers. -/
structure Q where
  n : Int
  node : Int
  inc : Int
  seq : Int
def encQ (x : Q) : List Value := [.int .u64 x.n, .int .u8 x.node, .int .u32 x.inc, .int .u32 x.seq]
/-- The order of two stamps. -/
def ordQ (x y : Q) : Int := or4 (c3 x.n y.n) (c3 x.node y.node) (c3 x.inc y.inc) (c3 x.seq y.seq)
theorem cell_third (w : World) (o1 o2 : Obj) (c : Array Value) (t : TypeId) (i : Nat) : (((w.alloc o1).alloc o2).alloc (.cells c t)).cell? ⟨w.heap.size + 1 + 1, i, none⟩ = c[i]? := by
  have h := World.cell?_alloc_new ((w.alloc o1).alloc o2) c t i
  rwa [World.size_alloc, World.size_alloc] at h
theorem cell_third_drew (w : World) (o1 o2 : Obj) (c : Array Value) (t : TypeId) (i : Nat) : (((w.alloc o1).alloc o2).alloc (.cells c t)).drew.cell? ⟨w.heap.size + 1 + 1, i, none⟩ = c[i]? := cell_third w o1 o2 c t i
set_option maxHeartbeats 4000000 in
theorem order4 (a b c d a' b' c' d' : Int) (w : World) :
    Calls Try.prog 13 #[.agg #[.int .u64 a, .int .u8 b, .int .u32 c, .int .u32 d], .agg #[.int .u64 a', .int .u8 b', .int .u32 c', .int .u32 d']] w fun e w' => e = .returned (.int .i64 (or4 (c3 a a') (c3 b b') (c3 c c') (c3 d d'))) ∧ ∃ q os', w' = grow (w.drewN q) os' := by
  go_enter Try.func13, Try.ntmps13
  go_wp2_with fail
  go_region_held3 (fun w' => (w'.cell? ⟨w.heap.size, 0, none⟩ = some (.int .u64 a) ∧ w'.cell? ⟨w.heap.size, 1, none⟩ = some (.int .u8 b) ∧ w'.cell? ⟨w.heap.size, 2, none⟩ = some (.int .u32 c) ∧ w'.cell? ⟨w.heap.size, 3, none⟩ = some (.int .u32 d))
    ∧ (w'.cell? ⟨w.heap.size + 1, 0, none⟩ = some (.int .u64 a') ∧ w'.cell? ⟨w.heap.size + 1, 1, none⟩ = some (.int .u8 b') ∧ w'.cell? ⟨w.heap.size + 1, 2, none⟩ = some (.int .u32 c') ∧ w'.cell? ⟨w.heap.size + 1, 3, none⟩ = some (.int .u32 d')))
    (go_keep)
    (first
      | (go_at_call 24; refine (cmp64 _ _ _).mono ?_; rintro e w1 ⟨rfl, rfl⟩)
      | (go_at_call 25; refine (cmp8 _ _ _).mono ?_; rintro e w1 ⟨rfl, rfl⟩)
      | (go_at_call 26; refine (cmp32 _ _ _).mono ?_; rintro e w1 ⟨rfl, rfl⟩)
      | (go_at_call 23; refine (cmp_or _ (c3 a a') (c3 b b') (c3 c c') (c3 d d') _ (cell_third_drew _ _ _ _ _ 0) (cell_third_drew _ _ _ _ _ 1) (cell_third_drew _ _ _ _ _ 2) (cell_third_drew _ _ _ _ _ 3)).mono ?_; rintro e w1 ⟨rfl, rfl⟩))
  all_goals
    go_wp2_with fail
    go_ret
    exact ⟨rfl, 1, _, by rw [alloc_eq_grow, alloc_eq_grow, alloc_eq_grow, grow_grow, grow_grow]; rfl⟩
theorem order_calls (x y : Q) (w : World) :
    Calls Try.prog 13 #[.agg (encQ x).toArray, .agg (encQ y).toArray] w fun e w' => e = .returned (.int .i64 (ordQ x y)) ∧ ∃ q os', w' = grow (w.drewN q) os' :=
  order4 _ _ _ _ _ _ _ _ w
theorem below_grown {B : Nat} {a w w' : World} (h : Below B a w) (hB : B ≤ w.heap.size) (hg : ∃ q os', w' = grow (w.drewN q) os') : Below B a w' := by
  obtain ⟨q, os', rfl⟩ := hg
  refine ⟨h.os, h.tape, h.output, Nat.le_trans h.size (by simp [grow, World.drewN]), fun k hk => ?_⟩
  rw [← h.block k hk]
  show (w.heap ++ os')[k]? = _
  rw [Array.getElem?_append_left (by omega)]
set_option maxHeartbeats 2000000 in
/-- The document's examples. -/
theorem awake_any (w : World) : Calls Try.prog 7 #[] w fun e w' => e = .returned (.bool true) ∧ Below w.heap.size w w' := by
  go_enter Try.func7, Try.ntmps7
  go_wp2_with fail
  refine (new_clock _).mono ?_
  rintro e w1 ⟨rfl, rfl⟩
  go_wp2_with fail
  refine (tick_at w.heap.size 0 _ (by simp) (by simp) (by decide) (by decide)).mono ?_
  rintro e w1 ⟨rfl, rfl⟩
  go_wp2_with fail
  refine (see_at w.heap.size 1 5 _ (by simp) (by simp) (by decide) (by decide) (by decide) (by decide)).mono ?_
  rintro e w1 ⟨rfl, rfl⟩
  go_wp2_with fail
  refine (see_at w.heap.size 6 2 _ (by simp) (by simp) (by decide) (by decide) (by decide) (by decide)).mono ?_
  rintro e w1 ⟨rfl, rfl⟩
  go_wp2_with fail
  refine (now_at w.heap.size 7 _ (by simp)).mono ?_
  rintro e w1 ⟨rfl, rfl⟩
  go_wp2_with fail
  refine (order4 _ _ _ _ _ _ _ _ _).mono ?_
  rintro e w1 ⟨rfl, hg⟩
  rw [show or4 (c3 5 5) (c3 1 0) (c3 0 0) (c3 0 0) = 1 by decide]
  go_wp2_with fail
  go_ret
  exact ⟨rfl, below_grown ((Below.refl _ _).alloc (Nat.le_refl _) _) (by simp) hg⟩
end Go.Proofs.Ytfennglfmngeiaa.St
