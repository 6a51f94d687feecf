/- credit: the laws' awake; the law on splits, walked. -/
import Derived.Test.YtapofbiflkfocaaA5
import Derived.Test.YtapofbiflkfocaaB1
namespace Go.Proofs.Ytapofbiflkfocaa.Cr
open Go Go.RowKit
set_option maxRecDepth 100000 in
set_option maxHeartbeats 1000000 in
theorem awake_any (w : World) : Calls Try.prog 7 #[] w fun e w' => e = .returned (.bool true) ∧ Below w.heap.size w w' := by
  have hs := split_any 10 3 w (by decide) (by decide)
  rw [show splR 10 3 = (2, 4, 0) by decide] at hs
  go_enter Try.func7, Try.ntmps7
  go_wp2_with (go_at_call 8; refine hs.mono ?_; rintro e w1 ⟨rfl, rfl⟩)
  refine (new_any w).mono ?_
  rintro e w2 ⟨rfl, hp, hb, hz⟩
  have HP := Lib.hid hp
  have HB := Lib.hid hb
  have HZ := Lib.hid hz
  clear hp hb hz hs
  go_wp2_with fail
  refine (back_first HP.out (k := (0, 1)) (by unfold InK; decide) rfl (c := 1152921504606846976) (by decide) (by decide) (by decide)).mono ?_
  rintro e w3 ⟨rfl, hp, ht⟩
  have H3 := Lib.hid hp
  have HB3 := Lib.hid (HB.out.trans (ht.below (B := w.heap.size) (by have := HZ.out; omega) (fun k hk => by rcases hk with rfl | rfl <;> omega)))
  clear hp ht
  have hd := done_any H3.out
  rw [show ((1152921504606846976 - 1152921504606846976 : Int) == 0) = true by decide] at hd
  go_wp2_with (go_at_call 12; refine hd.mono ?_; rintro e w4 ⟨rfl, rfl⟩)
  go_ret
  exact ⟨rfl, HB3.out⟩
set_option maxRecDepth 100000 in
set_option maxHeartbeats 1000000 in
theorem splits_law (c m : Int) (w : World) (c0 : 0 ≤ c) (c1 : c ≤ 18446744073709551615) :
    Calls Try.prog 3 #[.int .u64 c, .int .i64 m] w fun e w' => e = .returned (.bool true) ∧ Below w.heap.size w w' := by
  have hA := awake_any w
  have hS := fun w' => split_any c m w' c0 c1
  have hD := fun w' => doc_split c m w' c0 c1
  obtain ⟨x, y, e, hR⟩ : ∃ x y e, splR c m = (x, y, e) := ⟨_, _, _, rfl⟩
  simp only [hR] at hS hD
  by_cases he : e = 0
  · subst he
    have hm : 0 ≤ m ∧ m ≤ 4 := by
      unfold splR at hR
      split at hR
      · simp at hR
      · omega
    have hx : x = c / (m + 1) ∧ y = c - m * x := by
      unfold splR at hR
      rw [if_neg (by omega)] at hR
      split at hR
      · simp at hR
      · simp only [Prod.mk.injEq] at hR
        obtain ⟨rfl, rfl, _⟩ := hR
        exact ⟨rfl, rfl⟩
    obtain ⟨hx, hy⟩ := hx
    have hdm := Int.mul_ediv_add_emod c (m + 1)
    have hr0 := Int.emod_nonneg c (show m + 1 ≠ 0 by omega)
    have hr1 := Int.emod_lt_of_pos c (show 0 < m + 1 by omega)
    have q0 : 0 ≤ x := by rw [hx]; exact Int.ediv_nonneg c0 (by omega)
    rw [← hx, Int.add_mul, Int.one_mul] at hdm
    have q3 : 0 ≤ m * x := Int.mul_nonneg (by omega) q0
    have e1 : IntKind.u64.wrap m = m := by simp [IntKind.wrap, IntKind.bits, IntKind.signed]; omega
    have e2 : IntKind.u64.wrap (x * m) = x * m := by rw [Int.mul_comm]; simp [IntKind.wrap, IntKind.bits, IntKind.signed]; omega
    have e3 : IntKind.u64.wrap (x * m + y) = c := by rw [Int.mul_comm]; simp [IntKind.wrap, IntKind.bits, IntKind.signed]; omega
    have e4 : x ≤ y := by omega
    have e5 : IntKind.u64.wrap (y - x) = y - x := by simp [IntKind.wrap, IntKind.bits, IntKind.signed]; omega
    have e6 : y - x ≤ m := by omega
    clear hx hy hdm hr0 hr1 hR q0 q3 hm
    go_enter Try.func3, Try.ntmps3
    go_wp2_with (first
      | (go_at_call 7; refine hA.mono ?_; rintro e w1 ⟨rfl, hb⟩; have HB := Lib.hid hb; clear hb)
      | (go_at_call 8; refine (hS _).mono ?_; rintro e w2 ⟨rfl, rfl⟩)
      | (go_at_call 9; refine (hD _).mono ?_; rintro e w2 ⟨rfl, rfl⟩))
    go_ret
    exact ⟨rfl, HB.out⟩
  · have he' : (e == 0) = false := by simpa using he
    have he2 : (e != 0) = true := by simpa using he
    clear hR he
    go_enter Try.func3, Try.ntmps3
    go_wp2_with (first
      | (go_at_call 7; refine hA.mono ?_; rintro e w1 ⟨rfl, hb⟩; have HB := Lib.hid hb; clear hb)
      | (go_at_call 8; refine (hS _).mono ?_; rintro e w2 ⟨rfl, rfl⟩)
      | (go_at_call 9; refine (hD _).mono ?_; rintro e w2 ⟨rfl, rfl⟩))
    go_ret
    exact ⟨rfl, HB.out⟩
end Go.Proofs.Ytapofbiflkfocaa.Cr
