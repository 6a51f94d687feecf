/- The walks of the clocks' functions. -/
import Derived.Test.YtfennglfmngeiaaRows
import Derived.WalkKit
namespace Go.Proofs.Ytfennglfmngeiaa.St
open Go Go.RowKit
/-- One more, as far as there is one. -/
def nx (n : Int) : Int := if n = 18446744073709551615 then n else n + 1
theorem ret_of {a b : Int} (h : a = b) (k : IntKind) : Ending.returned (.int k a) = .returned (.int k b) := by rw [h]
theorem one_more (n : Int) (w : World) (h0 : 0 ≤ n) (h1 : n ≤ 18446744073709551615) :
    Calls Try.prog 22 #[.int .u64 n] w fun e w' => e = .returned (.int .u64 (nx n)) ∧ w' = w := by
  by_cases h : n = 18446744073709551615
  · subst h
    go_enter Try.func22, Try.ntmps22
    go_wp2
    go_ret
    exact ⟨ret_of (by simp [nx]) _, rfl⟩
  · have e : nx n = n + 1 := by simp [nx, h]
    rw [e]
    go_enter Try.func22, Try.ntmps22
    go_wp2
    go_ret
    exact ⟨ret_of (by go_num) _, rfl⟩
theorem next (a b : Int) (w : World) (h0 : 0 ≤ a) (h1 : a ≤ 18446744073709551615) (k0 : 0 ≤ b) (k1 : b ≤ 18446744073709551615) :
    Calls Try.prog 9 #[.int .u64 a, .int .u64 b] w fun e w' => e = .returned (.int .u64 (nx (max a b))) ∧ w' = w := by
  by_cases hab : a < b
  · have e : max a b = b := by omega
    rw [e]
    by_cases h : b = 18446744073709551615
    · subst h
      go_enter Try.func9, Try.ntmps9
      go_wp2
      go_ret
      exact ⟨ret_of (by simp [nx]) _, rfl⟩
    · have e : nx b = b + 1 := by simp [nx, h]
      rw [e]
      go_enter Try.func9, Try.ntmps9
      go_wp2
      go_ret
      exact ⟨ret_of (by go_num) _, rfl⟩
  · have e : max a b = a := by omega
    rw [e]
    by_cases h : a = 18446744073709551615
    · subst h
      go_enter Try.func9, Try.ntmps9
      go_wp2
      go_ret
      exact ⟨ret_of (by simp [nx]) _, rfl⟩
    · have e : nx a = a + 1 := by simp [nx, h]
      rw [e]
      go_enter Try.func9, Try.ntmps9
      go_wp2
      go_ret
      exact ⟨ret_of (by go_num) _, rfl⟩
theorem new_clock (w : World) :
    Calls Try.prog 8 #[] w fun e w' => e = .returned (.pointer (some ⟨w.heap.size, 0, none⟩)) ∧ w' = w.alloc (.cells #[.int .u64 0] 60) := by
  go_enter Try.func8, Try.ntmps8
  go_wp2
  go_ret
  exact ⟨rfl, rfl⟩
theorem now_nil (w : World) : Calls Try.prog 12 #[.pointer none] w fun e w' => e = .returned (.int .u64 0) ∧ w' = w := by
  go_enter Try.func12, Try.ntmps12
  go_wp2
  go_ret
  exact ⟨rfl, rfl⟩
theorem now_at (c : Nat) (n : Int) (w : World) (hc : w.cell? ⟨c, 0, none⟩ = some (.int .u64 n)) : Calls Try.prog 12 #[.pointer (some ⟨c, 0, none⟩)] w fun e w' => e = .returned (.int .u64 n) ∧ w' = w := by
  go_enter Try.func12, Try.ntmps12
  go_wp2
  go_ret
  exact ⟨rfl, rfl⟩
theorem see_nil (x : Int) (w : World) : Calls Try.prog 11 #[.pointer none, .int .u64 x] w fun e w' => e = .returned (.int .u64 0) ∧ w' = w := by
  go_enter Try.func11, Try.ntmps11
  go_wp2
  go_ret
  exact ⟨rfl, rfl⟩
theorem tick_nil (w : World) : Calls Try.prog 10 #[.pointer none] w fun e w' => e = .returned (.int .u64 0) ∧ w' = w := by
  go_enter Try.func10, Try.ntmps10
  go_wp2_with fail
  refine (see_nil _ _).mono ?_
  rintro e w1 ⟨rfl, rfl⟩
  go_wp2
  go_ret
  exact ⟨rfl, rfl⟩
theorem see_at (c : Nat) (n x : Int) (w : World) (hc : w.cell? ⟨c, 0, none⟩ = some (.int .u64 n)) (hf : w.frozen? ⟨c, 0, none⟩ = false) (h0 : 0 ≤ n) (h1 : n ≤ 18446744073709551615) (k0 : 0 ≤ x) (k1 : x ≤ 18446744073709551615) :
    Calls Try.prog 11 #[.pointer (some ⟨c, 0, none⟩), .int .u64 x] w fun e w' => e = .returned (.int .u64 (nx (max x n))) ∧ w' = w.setCell ⟨c, 0, none⟩ (.int .u64 (nx (max x n))) := by
  by_cases hx : x < n
  · rw [show max x n = n by omega]
    go_enter Try.func11, Try.ntmps11
    go_wp2_with (go_at_call 22; refine (one_more n _ h0 h1).mono ?_; rintro e w1 ⟨rfl, rfl⟩)
    go_ret
    exact ⟨rfl, rfl⟩
  · rw [show max x n = x by omega]
    go_enter Try.func11, Try.ntmps11
    go_wp2_with (go_at_call 22; refine (one_more x _ k0 k1).mono ?_; rintro e w1 ⟨rfl, rfl⟩)
    go_ret
    exact ⟨rfl, rfl⟩
theorem tick_at (c : Nat) (n : Int) (w : World) (hc : w.cell? ⟨c, 0, none⟩ = some (.int .u64 n)) (hf : w.frozen? ⟨c, 0, none⟩ = false) (h0 : 0 ≤ n) (h1 : n ≤ 18446744073709551615) :
    Calls Try.prog 10 #[.pointer (some ⟨c, 0, none⟩)] w fun e w' => e = .returned (.int .u64 (nx n)) ∧ w' = w.setCell ⟨c, 0, none⟩ (.int .u64 (nx n)) := by
  have hs := see_at c n 0 w hc hf h0 h1 (by decide) (by decide)
  rw [show max 0 n = n by omega] at hs
  go_enter Try.func10, Try.ntmps10
  go_wp2_with (go_at_call 11; refine hs.mono ?_; rintro e w1 ⟨rfl, rfl⟩)
  go_ret
  exact ⟨rfl, rfl⟩
end Go.Proofs.Ytfennglfmngeiaa.St
