/- The walk of Less. -/
import Derived.Test.YtnjapbfnodfgpaaW1
namespace Go.Proofs.Ytnjapbfnodfgpaa.Rk
open Go Go.RowKit
set_option maxHeartbeats 400000 in
theorem lessW_none (ao bo : Option Addr) (m ca cb : Nat) (w : World) (_hm : m ≤ maxLen) :
    Calls Try.prog 26 #[.slice ao 0 ca, .slice bo m cb] w fun e w' => e = .returned (.bool (decide (0 < m))) ∧ Below w.heap.size w w' := by
  unfold maxLen at _hm
  go_enter Try.func26, Try.ntmps26
  go_wp2
  refine wp_loop_rounds 1 ?_
  rw [rounds_succ]
  go_wp2
  go_ret
  exact ⟨by simp, Below.refl _ _⟩
set_option maxHeartbeats 400000 in
theorem lessW_nil (a : Addr) (bo : Option Addr) (n ca cb : Nat) (w : World) (_hn : n ≤ maxLen) (h0 : 0 < n) :
    Calls Try.prog 26 #[.slice (some a) n ca, .slice bo 0 cb] w fun e w' => e = .returned (.bool false) ∧ Below w.heap.size w w' := by
  unfold maxLen at _hn
  go_enter Try.func26, Try.ntmps26
  go_wp2
  refine wp_loop_rounds 1 ?_
  rw [rounds_succ]
  go_wp2
  go_ret
  exact ⟨by simp, Below.refl _ _⟩
set_option maxHeartbeats 800000 in
theorem lessW_some (a b : Addr) (n m ca cb : Nat) (la lb : List Int) (w : World) (hn : n ≤ maxLen) (_hm : m ≤ maxLen) (ha : la.length = n) (hb : lb.length = m) (ha0 : a.block < w.heap.size) (hb0 : b.block < w.heap.size)
    (hca : ∀ k, k < n → w.cell? (a.add k) = some (.int .u8 (la.getD k 0))) (hcb : ∀ k, k < m → w.cell? (b.add k) = some (.int .u8 (lb.getD k 0))) :
    Calls Try.prog 26 #[.slice (some a) n ca, .slice (some b) m cb] w fun e w' => e = .returned (.bool (lessL la lb)) ∧ Below w.heap.size w w' := by
  unfold maxLen at hn _hm
  have HA := Lib.hid hca
  have HB := Lib.hid hcb
  have La := Lib.hid ha
  have Lb := Lib.hid hb
  clear hca hcb ha hb
  go_enter Try.func26, Try.ntmps26
  go_wp2
  go_loopw [8] (fun i wr => ∃ j : Nat, j ≤ n ∧ j ≤ m ∧ i = .int .i64 j ∧ Hid (la.take j = lb.take j) ∧ Below w.heap.size w wr) (fun i _ => n - (intOf i).toNat)
  case atStart => exact ⟨0, Nat.zero_le _, Nat.zero_le _, rfl, Lib.hid rfl, Below.refl _ _⟩
  case round =>
    obtain ⟨j, hj, hj', rfl, he, hB⟩ := hrel
    by_cases hlt : j < n
    · by_cases hlt' : j < m
      · have c1 := (hB.cell (p := a.add j) (by rw [add_block]; exact ha0)).trans (HA.out j hlt)
        have c2 := (hB.cell (p := b.add j) (by rw [add_block]; exact hb0)).trans (HB.out j hlt')
        by_cases hne : la.getD j 0 = lb.getD j 0
        · have Hn := Lib.hid (take_step he.out (by rw [La.out]; exact hlt) (by rw [Lb.out]; exact hlt') hne)
          rw [hne] at c1
          clear hne
          generalize lb.getD j 0 = x at *
          go_wp2
          go_quiet (fail)
          go_wp2
          go_roundw
          case rel => exact ⟨j + 1, by omega, by omega, by go_num, Hn, below_drewN hB _⟩
          case measure => simp [intOf]; omega
        · have Hn := Lib.hid (less_here he.out (by rw [La.out]; exact hlt) (by rw [Lb.out]; exact hlt') hne)
          have hx : (la.getD j 0 != lb.getD j 0) = true := by rw [bne_iff_ne]; exact hne
          clear hne
          generalize la.getD j 0 = x at *
          generalize lb.getD j 0 = y at *
          go_wp2
          go_quiet (fail)
          go_wp2
          go_quiet (fail)
          go_wp2
          go_ret
          exact ⟨ret_bool Hn.out.symm, below_drewN (below_drewN hB _) _⟩
      · go_wp2
        go_ret
        exact ⟨ret_bool (less_long he.out (by rw [La.out]; omega) (by rw [Lb.out]; omega)).symm, hB⟩
    · go_wp2
      go_ret
      exact ⟨ret_bool (by rw [less_end he.out (by rw [La.out]; omega) (by rw [Lb.out]; omega), La.out, Lb.out]), hB⟩
/-- Less: does the one stand ahead of the other? -/
theorem less_any (ao bo : Option Addr) (ca cb : Nat) (la lb : List Int) (w : World) (hn : la.length ≤ maxLen) (hm : lb.length ≤ maxLen) (ha : Rd w ao la) (hb : Rd w bo lb) :
    Calls Try.prog 26 #[.slice ao la.length ca, .slice bo lb.length cb] w fun e w' => e = .returned (.bool (lessL la lb)) ∧ Below w.heap.size w w' := by
  by_cases h0 : la = []
  · subst h0
    rw [less_end (j := 0) (by simp) rfl (by omega)]
    exact lessW_none ao bo _ ca cb w hm
  · obtain ⟨a, rfl, a1, a2⟩ := ha.here h0
    by_cases h1 : lb = []
    · subst h1
      rw [less_long (j := 0) (by simp) (by omega) rfl]
      exact lessW_nil a bo _ ca cb w hn (List.length_pos_iff.2 h0)
    · obtain ⟨b, rfl, b1, b2⟩ := hb.here h1
      exact lessW_some a b _ _ ca cb la lb w hn hm rfl rfl a1 b1 a2 b2
end Go.Proofs.Ytnjapbfnodfgpaa.Rk
