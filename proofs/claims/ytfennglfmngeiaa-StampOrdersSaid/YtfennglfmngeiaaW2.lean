/- The walks of the order of stamps. -/
import Derived.Test.YtfennglfmngeiaaW1
import Derived.BigQuiet
import Derived.Deep.QuietTactic
import Derived.Deep.RegionWith
import Derived.Deep.RegionHeld3
import Derived.Lib.Hide
namespace Go.Proofs.Ytfennglfmngeiaa.St
open Go Go.RowKit
/-- Which stands ahead: -1, 0, 1. -/
def c3 (x y : Int) : Int := if x < y then -1 else if y < x then 1 else 0
theorem cmp64 (x y : Int) (w : World) :
    Calls Try.prog 24 #[.int .u64 x, .int .u64 y] w fun e w' => e = .returned (.int .i64 (c3 x y)) ∧ w' = w := by
  by_cases h : x < y
  · rw [show c3 x y = -1 by simp [c3, h]]
    go_enter Try.func24, Try.ntmps24
    go_wp2
    go_ret
    exact ⟨rfl, rfl⟩
  · by_cases h2 : y < x
    · rw [show c3 x y = 1 by simp [c3, h, h2]]
      go_enter Try.func24, Try.ntmps24
      go_wp2
      go_ret
      exact ⟨rfl, rfl⟩
    · rw [show c3 x y = 0 by simp [c3, h, h2]]
      go_enter Try.func24, Try.ntmps24
      go_wp2
      go_ret
      exact ⟨rfl, rfl⟩
theorem cmp8 (x y : Int) (w : World) :
    Calls Try.prog 25 #[.int .u8 x, .int .u8 y] w fun e w' => e = .returned (.int .i64 (c3 x y)) ∧ w' = w := by
  by_cases h : x < y
  · rw [show c3 x y = -1 by simp [c3, h]]
    go_enter Try.func25, Try.ntmps25
    go_wp2
    go_ret
    exact ⟨rfl, rfl⟩
  · by_cases h2 : y < x
    · rw [show c3 x y = 1 by simp [c3, h, h2]]
      go_enter Try.func25, Try.ntmps25
      go_wp2
      go_ret
      exact ⟨rfl, rfl⟩
    · rw [show c3 x y = 0 by simp [c3, h, h2]]
      go_enter Try.func25, Try.ntmps25
      go_wp2
      go_ret
      exact ⟨rfl, rfl⟩
theorem cmp32 (x y : Int) (w : World) :
    Calls Try.prog 26 #[.int .u32 x, .int .u32 y] w fun e w' => e = .returned (.int .i64 (c3 x y)) ∧ w' = w := by
  by_cases h : x < y
  · rw [show c3 x y = -1 by simp [c3, h]]
    go_enter Try.func26, Try.ntmps26
    go_wp2
    go_ret
    exact ⟨rfl, rfl⟩
  · by_cases h2 : y < x
    · rw [show c3 x y = 1 by simp [c3, h, h2]]
      go_enter Try.func26, Try.ntmps26
      go_wp2
      go_ret
      exact ⟨rfl, rfl⟩
    · rw [show c3 x y = 0 by simp [c3, h, h2]]
      go_enter Try.func26, Try.ntmps26
      go_wp2
      go_ret
      exact ⟨rfl, rfl⟩
/-- The first of four that isn't 0. -/
def or4 (a b c d : Int) : Int := if a ≠ 0 then a else if b ≠ 0 then b else if c ≠ 0 then c else d
set_option maxHeartbeats 1000000 in
theorem cmp_or (p : Nat) (a b c d : Int) (w : World) (h0 : w.cell? ⟨p, 0, none⟩ = some (.int .i64 a)) (h1 : w.cell? ⟨p, 1, none⟩ = some (.int .i64 b)) (h2 : w.cell? ⟨p, 2, none⟩ = some (.int .i64 c)) (h3 : w.cell? ⟨p, 3, none⟩ = some (.int .i64 d)) :
    Calls Try.prog 23 #[.slice (some ⟨p, 0, none⟩) 4 4] w fun e w' => e = .returned (.int .i64 (or4 a b c d)) ∧ w' = w := by
  by_cases ha : a = 0
  · subst ha
    by_cases hb : b = 0
    · subst hb
      by_cases hc : c = 0
      · subst hc
        by_cases hd : d = 0
        · subst hd
          rw [show or4 0 0 0 0 = 0 by simp [or4]]
          go_enter Try.func23, Try.ntmps23
          go_wp2
          refine wp_loop_rounds 5 ?_
          iterate 5
            rw [rounds_succ]
            go_wp2
          go_ret
          exact ⟨rfl, rfl⟩
        · rw [show or4 0 0 0 d = d by simp [or4]]
          go_enter Try.func23, Try.ntmps23
          go_wp2
          refine wp_loop_rounds 4 ?_
          iterate 4
            rw [rounds_succ]
            go_wp2
          go_ret
          exact ⟨rfl, rfl⟩
      · rw [show or4 0 0 c d = c by simp [or4, hc]]
        go_enter Try.func23, Try.ntmps23
        go_wp2
        refine wp_loop_rounds 3 ?_
        iterate 3
          rw [rounds_succ]
          go_wp2
        go_ret
        exact ⟨rfl, rfl⟩
    · rw [show or4 0 b c d = b by simp [or4, hb]]
      go_enter Try.func23, Try.ntmps23
      go_wp2
      refine wp_loop_rounds 2 ?_
      iterate 2
        rw [rounds_succ]
        go_wp2
      go_ret
      exact ⟨rfl, rfl⟩
  · rw [show or4 a b c d = a by simp [or4, ha]]
    go_enter Try.func23, Try.ntmps23
    go_wp2
    refine wp_loop_rounds 1 ?_
    rw [rounds_succ]
    go_wp2
    go_ret
    exact ⟨rfl, rfl⟩
end Go.Proofs.Ytfennglfmngeiaa.St
