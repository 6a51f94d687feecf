/- credit: Split, the document's Split, walked. -/
import Derived.Test.YtapofbiflkfocaaA2
namespace Go.Proofs.Ytapofbiflkfocaa.Cr
open Go Go.RowKit
/-- What a credit is split into: each share, the rest, and whether it can be. -/
def splR (c m : Int) : Int × Int × Int := if m < 0 ∨ 4 < m then (0, 0, 1) else if c / (m + 1) = 0 then (0, 0, 4) else (c / (m + 1), c - m * (c / (m + 1)), 0)
theorem split_any (c m : Int) (w : World) (c0 : 0 ≤ c) (c1 : c ≤ 18446744073709551615) :
    Calls Try.prog 8 #[.int .u64 c, .int .i64 m] w fun e w' => e = .returned (.tuple #[.int .u64 (splR c m).1, .int .u64 (splR c m).2.1, .int .i64 (splR c m).2.2]) ∧ w = w' := by
  by_cases h0 : m < 0
  · rw [show splR c m = (0, 0, 1) by simp [splR, h0]]
    go_enter Try.func8, Try.ntmps8
    go_wp2
    go_ret3
    exact ⟨rfl, rfl⟩
  by_cases h4 : 4 < m
  · rw [show splR c m = (0, 0, 1) by simp [splR, h4]]
    go_enter Try.func8, Try.ntmps8
    go_wp2
    go_ret3
    exact ⟨rfl, rfl⟩
  have hn : ¬ (m < 0 ∨ 4 < m) := by omega
  have e1 : IntKind.u64.wrap m = m := by simp [IntKind.wrap, IntKind.bits, IntKind.signed]; omega
  have e2 : IntKind.u64.wrap (m + 1) = m + 1 := by simp [IntKind.wrap, IntKind.bits, IntKind.signed]; omega
  have e3 : (m + 1 == 0) = false := by simp; omega
  obtain ⟨q, hq⟩ : ∃ q, c / (m + 1) = q := ⟨_, rfl⟩
  have q0 : 0 ≤ q := by rw [← hq]; exact Int.ediv_nonneg c0 (by omega)
  have q1 : q * (m + 1) ≤ c := by rw [← hq]; exact Int.ediv_mul_le c (by omega)
  have q2 : m * q ≤ c := by
    have : q * (m + 1) = m * q + q := by rw [Int.mul_add, Int.mul_one, Int.mul_comm]
    omega
  have q3 : 0 ≤ m * q := Int.mul_nonneg (by omega) q0
  have q4 : q ≤ c := by
    have : q * (m + 1) = m * q + q := by rw [Int.mul_add, Int.mul_one, Int.mul_comm]
    omega
  have e4 : c.tdiv (m + 1) = q := by rw [Int.tdiv_eq_ediv_of_nonneg c0, hq]
  have e5 : IntKind.u64.wrap q = q := by simp [IntKind.wrap, IntKind.bits, IntKind.signed]; omega
  have e6 : IntKind.u64.wrap (m * q) = m * q := by simp [IntKind.wrap, IntKind.bits, IntKind.signed]; omega
  have e7 : IntKind.u64.wrap (c - m * q) = c - m * q := by simp [IntKind.wrap, IntKind.bits, IntKind.signed]; omega
  by_cases hz : q = 0
  · rw [show splR c m = (0, 0, 4) by simp [splR, hn, hq, hz]]
    have hz' : (q == 0) = true := by simpa using hz
    clear hz hq
    go_enter Try.func8, Try.ntmps8
    go_wp2
    go_ret3
    exact ⟨rfl, rfl⟩
  · rw [show splR c m = (q, c - m * q, 0) by simp [splR, hn, hq, hz]]
    have hz' : (q == 0) = false := by simpa using hz
    clear hz hq
    go_enter Try.func8, Try.ntmps8
    go_wp2
    go_ret3
    exact ⟨rfl, rfl⟩
end Go.Proofs.Ytapofbiflkfocaa.Cr
