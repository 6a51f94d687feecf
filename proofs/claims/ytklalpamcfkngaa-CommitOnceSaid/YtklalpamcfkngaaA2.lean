/- commit: the order of transactions, walked. -/
import Derived.Test.YtklalpamcfkngaaA1
import Derived.Sort.Grow
namespace Go.Proofs.Ytklalpamcfkngaa.Cm
open Go Go.RowKit Go.Sort
/-- Which stands ahead: -1, 0, 1. -/
def c3 (x y : Int) : Int := if x < y then -1 else if y < x then 1 else 0
theorem cmp8 (x y : Int) (w : World) :
    Calls Try.prog 48 #[.int .u8 x, .int .u8 y] w fun e w' => e = .returned (.int .i64 (c3 x y)) ∧ w' = w := by
  by_cases h : x < y
  · rw [show c3 x y = -1 by simp [c3, h]]
    go_enter Try.func48, Try.ntmps48
    go_wp2
    go_ret
    exact ⟨rfl, rfl⟩
  · by_cases h2 : y < x
    · rw [show c3 x y = 1 by simp [c3, h, h2]]
      go_enter Try.func48, Try.ntmps48
      go_wp2
      go_ret
      exact ⟨rfl, rfl⟩
    · rw [show c3 x y = 0 by simp [c3, h, h2]]
      go_enter Try.func48, Try.ntmps48
      go_wp2
      go_ret
      exact ⟨rfl, rfl⟩
theorem cmp32 (x y : Int) (w : World) :
    Calls Try.prog 49 #[.int .u32 x, .int .u32 y] w fun e w' => e = .returned (.int .i64 (c3 x y)) ∧ w' = w := by
  by_cases h : x < y
  · rw [show c3 x y = -1 by simp [c3, h]]
    go_enter Try.func49, Try.ntmps49
    go_wp2
    go_ret
    exact ⟨rfl, rfl⟩
  · by_cases h2 : y < x
    · rw [show c3 x y = 1 by simp [c3, h, h2]]
      go_enter Try.func49, Try.ntmps49
      go_wp2
      go_ret
      exact ⟨rfl, rfl⟩
    · rw [show c3 x y = 0 by simp [c3, h, h2]]
      go_enter Try.func49, Try.ntmps49
      go_wp2
      go_ret
      exact ⟨rfl, rfl⟩
/-- The first of three that isn't 0. -/
def or3 (a b c : Int) : Int := if a ≠ 0 then a else if b ≠ 0 then b else c
set_option maxHeartbeats 1000000 in
theorem cmp_or (p : Nat) (a b c : Int) (w : World) (h0 : w.cell? ⟨p, 0, none⟩ = some (.int .i64 a)) (h1 : w.cell? ⟨p, 1, none⟩ = some (.int .i64 b)) (h2 : w.cell? ⟨p, 2, none⟩ = some (.int .i64 c)) :
    Calls Try.prog 47 #[.slice (some ⟨p, 0, none⟩) 3 3] w fun e w' => e = .returned (.int .i64 (or3 a b c)) ∧ w' = w := by
  by_cases ha : a = 0
  · subst ha
    by_cases hb : b = 0
    · subst hb
      by_cases hc : c = 0
      · subst hc
        rw [show or3 0 0 0 = 0 by simp [or3]]
        go_enter Try.func47, Try.ntmps47
        go_wp2
        refine wp_loop_rounds 4 ?_
        iterate 4
          rw [rounds_succ]
          go_wp2
        go_ret
        exact ⟨rfl, rfl⟩
      · rw [show or3 0 0 c = c by simp [or3]]
        go_enter Try.func47, Try.ntmps47
        go_wp2
        refine wp_loop_rounds 3 ?_
        iterate 3
          rw [rounds_succ]
          go_wp2
        go_ret
        exact ⟨rfl, rfl⟩
    · rw [show or3 0 b c = b by simp [or3, hb]]
      go_enter Try.func47, Try.ntmps47
      go_wp2
      refine wp_loop_rounds 2 ?_
      iterate 2
        rw [rounds_succ]
        go_wp2
      go_ret
      exact ⟨rfl, rfl⟩
  · rw [show or3 a b c = a by simp [or3, ha]]
    go_enter Try.func47, Try.ntmps47
    go_wp2
    refine wp_loop_rounds 1 ?_
    rw [rounds_succ]
    go_wp2
    go_ret
    exact ⟨rfl, rfl⟩
/-- The order of two names. -/
def ordK (x y : TK) : Int := or3 (c3 x.1 y.1) (c3 x.2.1 y.2.1) (c3 x.2.2 y.2.2)
theorem cell_third (w : World) (o1 o2 : Obj) (c : Array Value) (t : TypeId) (i : Nat) : (((w.alloc o1).alloc o2).alloc (.cells c t)).cell? ⟨w.heap.size + 1 + 1, i, none⟩ = c[i]? := by
  have h := World.cell?_alloc_new ((w.alloc o1).alloc o2) c t i
  rwa [World.size_alloc, World.size_alloc] at h
theorem cell_third_drew (w : World) (o1 o2 : Obj) (c : Array Value) (t : TypeId) (i : Nat) : (((w.alloc o1).alloc o2).alloc (.cells c t)).drew.cell? ⟨w.heap.size + 1 + 1, i, none⟩ = c[i]? := cell_third w o1 o2 c t i
set_option maxHeartbeats 4000000 in
theorem order3 (b c d b' c' d' : Int) (w : World) :
    Calls Try.prog 43 #[.agg #[.int .u8 b, .int .u32 c, .int .u32 d], .agg #[.int .u8 b', .int .u32 c', .int .u32 d']] w fun e w' => e = .returned (.int .i64 (or3 (c3 b b') (c3 c c') (c3 d d'))) ∧ ∃ q os', w' = grow (w.drewN q) os' := by
  go_enter Try.func43, Try.ntmps43
  go_wp2_with fail
  go_region_held3 (fun w' => (w'.cell? ⟨w.heap.size, 0, none⟩ = some (.int .u8 b) ∧ w'.cell? ⟨w.heap.size, 1, none⟩ = some (.int .u32 c) ∧ w'.cell? ⟨w.heap.size, 2, none⟩ = some (.int .u32 d))
    ∧ (w'.cell? ⟨w.heap.size + 1, 0, none⟩ = some (.int .u8 b') ∧ w'.cell? ⟨w.heap.size + 1, 1, none⟩ = some (.int .u32 c') ∧ w'.cell? ⟨w.heap.size + 1, 2, none⟩ = some (.int .u32 d')))
    (go_keep)
    (first
      | (go_at_call 48; refine (cmp8 _ _ _).mono ?_; rintro e w1 ⟨rfl, rfl⟩)
      | (go_at_call 49; refine (cmp32 _ _ _).mono ?_; rintro e w1 ⟨rfl, rfl⟩)
      | (go_at_call 47; refine (cmp_or _ (c3 b b') (c3 c c') (c3 d d') _ (cell_third_drew _ _ _ _ _ 0) (cell_third_drew _ _ _ _ _ 1) (cell_third_drew _ _ _ _ _ 2)).mono ?_; rintro e w1 ⟨rfl, rfl⟩))
  all_goals
    go_wp2_with fail
    go_ret
    exact ⟨rfl, 1, _, by rw [alloc_eq_grow, alloc_eq_grow, alloc_eq_grow, grow_grow, grow_grow]; rfl⟩
def encK (t : TK) : List Value := [.int .u8 t.1, .int .u32 t.2.1, .int .u32 t.2.2]
theorem order_calls (x y : TK) (w : World) :
    Calls Try.prog 43 #[.agg (encK x).toArray, .agg (encK y).toArray] w fun e w' => e = .returned (.int .i64 (ordK x y)) ∧ ∃ q os', w' = grow (w.drewN q) os' :=
  order3 _ _ _ _ _ _ w
theorem below_grown {B : Nat} {a w w' : World} (h : Below B a w) (hB : B ≤ w.heap.size) (hg : ∃ q os', w' = grow (w.drewN q) os') : Below B a w' := by
  obtain ⟨q, os', rfl⟩ := hg
  refine ⟨h.os, h.tape, h.output, Nat.le_trans h.size (by simp [grow, World.drewN]), fun k hk => ?_⟩
  rw [← h.block k hk]
  show (w.heap ++ os')[k]? = _
  rw [Array.getElem?_append_left (by omega)]
end Go.Proofs.Ytklalpamcfkngaa.Cm
