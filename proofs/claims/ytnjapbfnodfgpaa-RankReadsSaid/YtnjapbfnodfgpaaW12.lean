/- The walk of ReadInt. -/
import Derived.Test.YtnjapbfnodfgpaaW11
namespace Go.Proofs.Ytnjapbfnodfgpaa.Rk
open Go Go.RowKit
/-- What ReadInt answers: the number, how long its code is; or nothing. -/
def riR : List Int → Option (Int × Int)
  | [] => none
  | x :: l => if 16 ≤ x then (readR l (x - 16).toNat).bind fun n => if n ≤ 9223372036854775807 then some (n, 1 + (x - 16)) else none
    else (readR (tn (l.take 8)) (15 - x).toNat).bind fun n => if n ≤ 9223372036854775807 then some (-1 - n, 1 + (15 - x)) else none
theorem riR_up (k : Nat) (l : List Int) : riR (((k + 16 : Nat) : Int) :: l) = (readR l k).bind fun n => if n ≤ 9223372036854775807 then some (n, 1 + (k : Int)) else none := by
  show (if _ then _ else _) = _
  rw [if_pos (by omega), show (((k + 16 : Nat) : Int) - 16).toNat = k by omega, show (((k + 16 : Nat) : Int) - 16) = (k : Int) by omega]
theorem riR_down (x k : Nat) (h : x + k = 15) (l : List Int) : riR ((x : Int) :: l) = (readR (tn (l.take 8)) k).bind fun n => if n ≤ 9223372036854775807 then some (-1 - n, 1 + (k : Int)) else none := by
  show (if _ then _ else _) = _
  rw [if_neg (by omega), show (15 - (x : Int)).toNat = k by omega, show (15 - (x : Int)) = (k : Int) by omega]
theorem readR_nat {l : List Int} {k : Nat} {n : Int} (hb : ∀ x ∈ l, 0 ≤ x ∧ x ≤ 255) (h : readR l k = some n) : 0 ≤ n ∧ n < 18446744073709551616 := by
  unfold readR at h
  by_cases hc : 8 < k ∨ l.length < k ∨ (0 < k ∧ l.getD 0 0 = 0)
  · rw [if_pos hc] at h; cases h
  · rw [if_neg hc] at h
    cases h
    have hv := val_bound l hb k (by omega)
    refine ⟨hv.1, Int.lt_of_lt_of_le hv.2 ?_⟩
    have : (256 : Int) ^ k ≤ 256 ^ 8 := by
      rw [show (256 : Int) = ((256 : Nat) : Int) from rfl, ← Int.natCast_pow, ← Int.natCast_pow]
      exact Int.ofNat_le.2 (Nat.pow_le_pow_right (by decide) (by omega))
    simpa using this
set_option maxHeartbeats 1000000 in
theorem ri_none (ao : Option Addr) (c : Nat) (w : World) :
    Calls Try.prog 21 #[.slice ao 0 c] w fun e w' => e = .returned (tri .i64 none) ∧ Below w.heap.size w w' := by
  go_enter Try.func21, Try.ntmps21
  go_wp2
  go_ret3
  exact ⟨rfl, Below.refl _ _⟩
set_option maxHeartbeats 1000000 in
theorem ri_up (a : Addr) (n c k : Nat) (l : List Int) (w : World) (hnc : n + 1 ≤ c) (hcm : c ≤ maxLen) (hc1 : ¬ c = 1) (hl : l.length = n) (hk : k ≤ 239)
    (hR : Rd w (some a) (((k + 16 : Nat) : Int) :: l)) (c0 : w.cell? a = some (.int .u8 ((k + 16 : Nat) : Int))) (hb : ∀ y ∈ l, 0 ≤ y ∧ y ≤ 255) :
    Calls Try.prog 21 #[.slice (some a) (n + 1) c] w fun e w' => e = .returned (tri .i64 (riR (((k + 16 : Nat) : Int) :: l))) ∧ Below w.heap.size w w' := by
  have hr := fun q => read_any (some ⟨a.block, a.off + 1, none⟩) n (c - 1) k l (w.drewN q) (by omega) (by unfold maxLen at *; omega) hl (by omega) (hR.tail.on (below_drewN (Below.refl _ _) q) (Nat.le_refl _)) hb
  unfold maxLen at hcm
  have hn1 : ((n : Int) + 1 == 0) = false := by rw [beq_eq_false_iff_ne]; omega
  rw [riR_up]
  have hrn := fun v => readR_nat (k := k) (n := v) hb
  clear hR hb hl
  obtain ⟨x, hx⟩ : ∃ x : Int, x = ((k + 16 : Nat) : Int) := ⟨_, rfl⟩
  rw [← hx] at c0
  have hw : IntKind.i64.wrap (x - 16) = (k : Int) := by rw [hx]; simp [IntKind.wrap, IntKind.bits, IntKind.signed]; omega
  have hx0 : 0 ≤ x ∧ x ≤ 255 := by omega
  clear hx
  cases h : readR l k with
  | none =>
    rw [h] at hr
    have Hr := Lib.hid hr
    clear hr h hrn
    go_enter Try.func21, Try.ntmps21
    go_wp2
    go_quiet (fail)
    go_wp2_with (go_at_call 31; refine (Hr.out _).mono ?_; clear Hr; rintro e w1 ⟨rfl, hB⟩)
    go_ret3
    exact ⟨rfl, (below_drewN (Below.refl _ w) _).trans hB⟩
  | some v =>
    rw [h] at hr
    have hv := hrn v h
    have Hr := Lib.hid hr
    clear hr h hrn
    by_cases hm : v ≤ 9223372036854775807
    · have E : ((some v).bind fun n => if n ≤ 9223372036854775807 then some (n, 1 + (k : Int)) else none) = some (v, 1 + (k : Int)) := by simp [hm]
      rw [E]
      clear E
      go_enter Try.func21, Try.ntmps21
      go_wp2
      go_quiet (fail)
      go_wp2_with (go_at_call 31; refine (Hr.out _).mono ?_; clear Hr; rintro e w1 ⟨rfl, hB⟩)
      go_ret3
      exact ⟨rfl, (below_drewN (Below.refl _ w) _).trans hB⟩
    · have E : ((some v).bind fun n => if n ≤ 9223372036854775807 then some (n, 1 + (k : Int)) else none) = none := by simp [hm]
      rw [E]
      clear E
      go_enter Try.func21, Try.ntmps21
      go_wp2
      go_quiet (fail)
      go_wp2_with (go_at_call 31; refine (Hr.out _).mono ?_; clear Hr; rintro e w1 ⟨rfl, hB⟩)
      go_ret3
      exact ⟨rfl, (below_drewN (Below.refl _ w) _).trans hB⟩
end Go.Proofs.Ytnjapbfnodfgpaa.Rk
