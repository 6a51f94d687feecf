/- credit: the document's Split, Back, the laws' awake, walked. -/
import Derived.Test.YtapofbiflkfocaaA4
namespace Go.Proofs.Ytapofbiflkfocaa.Cr
open Go Go.RowKit
theorem doc_split (c m : Int) (w : World) (c0 : 0 ≤ c) (c1 : c ≤ 18446744073709551615) :
    Calls Try.prog 9 #[.int .u64 c, .int .i64 m] w fun e w' => e = .returned (.tuple #[.int .u64 (splR c m).1, .int .u64 (splR c m).2.1, .int .i64 (splR c m).2.2]) ∧ w = w' := by
  by_cases h0 : m < 0
  · rw [show splR c m = (0, 0, 1) by simp [splR, h0]]
    go_enter Try.func9, Try.ntmps9
    go_wp2
    go_ret3
    exact ⟨rfl, rfl⟩
  by_cases h4 : 4 < m
  · rw [show splR c m = (0, 0, 1) by simp [splR, h4]]
    go_enter Try.func9, Try.ntmps9
    go_wp2
    go_ret3
    exact ⟨rfl, rfl⟩
  have hn : ¬ (m < 0 ∨ 4 < m) := by omega
  have e1 : IntKind.u64.wrap m = m := by simp [IntKind.wrap, IntKind.bits, IntKind.signed]; omega
  by_cases hm : m = 0
  · subst hm
    by_cases hz : c = 0
    · rw [show splR c 0 = (0, 0, 4) by simp [splR, hz]]
      have hz' : (c == 0) = true := by simpa using hz
      clear hz
      go_enter Try.func9, Try.ntmps9
      go_wp2
      go_ret3
      exact ⟨rfl, rfl⟩
    · rw [show splR c 0 = (c, c, 0) by simp [splR, hz]]
      have hz' : (c == 0) = false := by simpa using hz
      clear hz
      go_enter Try.func9, Try.ntmps9
      go_wp2
      go_ret3
      exact ⟨rfl, rfl⟩
  have hm' : (m == 0) = false := by simpa using hm
  have hm2 : 0 < m := by omega
  have e2 : IntKind.u64.wrap (m + 1) = m + 1 := by simp [IntKind.wrap, IntKind.bits, IntKind.signed]; omega
  have e3 : (m + 1 == 0) = false := by simp; omega
  have hdm := Int.mul_ediv_add_emod c (m + 1)
  have hr0 := Int.emod_nonneg c (show m + 1 ≠ 0 by omega)
  have hr1 := Int.emod_lt_of_pos c (show 0 < m + 1 by omega)
  obtain ⟨q, hq⟩ : ∃ q, c / (m + 1) = q := ⟨_, rfl⟩
  obtain ⟨r, hr⟩ : ∃ r, c % (m + 1) = r := ⟨_, rfl⟩
  rw [hq, hr] at hdm
  rw [hr] at hr0 hr1
  have q0 : 0 ≤ q := by rw [← hq]; exact Int.ediv_nonneg c0 (by omega)
  have q5 : (m + 1) * q = m * q + q := by rw [Int.add_mul, Int.one_mul]
  have q3 : 0 ≤ m * q := Int.mul_nonneg (by omega) q0
  have f1 : c.tmod (m + 1) = r := by rw [Int.tmod_eq_emod_of_nonneg c0, hr]
  have f2 : IntKind.u64.wrap r = r := by simp [IntKind.wrap, IntKind.bits, IntKind.signed]; omega
  have f3 : IntKind.u64.wrap (c - r) = c - r := by simp [IntKind.wrap, IntKind.bits, IntKind.signed]; omega
  have f4 : (c - r).tdiv (m + 1) = q := by
    rw [show c - r = (m + 1) * q by omega]
    exact Int.mul_tdiv_cancel_left q (by omega)
  have f5 : IntKind.u64.wrap q = q := by simp [IntKind.wrap, IntKind.bits, IntKind.signed]; omega
  have f6 : IntKind.u64.wrap (q + r) = q + r := by simp [IntKind.wrap, IntKind.bits, IntKind.signed]; omega
  have f7 : c - m * q = q + r := by omega
  by_cases hz : q = 0
  · rw [show splR c m = (0, 0, 4) by simp [splR, hn, hq, hz]]
    have hz' : (q == 0) = true := by simpa using hz
    clear hz hq hr hdm f7 q5
    go_enter Try.func9, Try.ntmps9
    go_wp2
    go_ret3
    exact ⟨rfl, rfl⟩
  · rw [show splR c m = (q, q + r, 0) by simp [splR, hn, hq, hz, f7]]
    have hz' : (q == 0) = false := by simpa using hz
    clear hz hq hr hdm f7 q5
    go_enter Try.func9, Try.ntmps9
    go_wp2
    go_ret3
    exact ⟨rfl, rfl⟩
end Go.Proofs.Ytapofbiflkfocaa.Cr
