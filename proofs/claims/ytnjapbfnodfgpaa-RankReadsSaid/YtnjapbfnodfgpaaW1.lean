/- The walks of SameBytes and Less. -/
import Derived.Test.YtnjapbfnodfgpaaRows
import Derived.Test.YtnjapbfnodfgpaaPlain
import Derived.BigQuiet
import Derived.Deep.QuietTactic
import Derived.Deep.RegionWith
import Derived.Lib.Hide
namespace Go.Proofs.Ytnjapbfnodfgpaa.Rk
open Go Go.RowKit
theorem add_block (a : Addr) (k : Nat) : (a.add k).block = a.block := by unfold Addr.add; first | rfl | (split <;> rfl)
/-- Bytes as they stand in cells. -/
def bs (l : List Int) : List Value := l.map (Value.int .u8)
/-- From an address on these bytes stand, in blocks that are there. -/
def Rd (w : World) (ao : Option Addr) (l : List Int) : Prop :=
  ∀ k, k < l.length → ∃ a, ao = some a ∧ a.block < w.heap.size ∧ w.cell? (a.add k) = some (.int .u8 (l.getD k 0))
theorem Rd.nil (w : World) (ao : Option Addr) : Rd w ao [] := fun k hk => absurd hk (by simp)
theorem Rd.on {w w' : World} {ao : Option Addr} {l : List Int} (h : Rd w ao l) {B : Nat} (hb : Below B w w') (hB : w.heap.size ≤ B) : Rd w' ao l := by
  intro k hk
  obtain ⟨a, h1, h2, h3⟩ := h k hk
  exact ⟨a, h1, Nat.lt_of_lt_of_le h2 hb.size, (hb.cell (p := a.add k) (by rw [add_block]; exact Nat.lt_of_lt_of_le h2 hB)).trans h3⟩
theorem Rd.here {w : World} {ao : Option Addr} {l : List Int} (h : Rd w ao l) (hl : l ≠ []) : ∃ a, ao = .some a ∧ a.block < w.heap.size ∧ ∀ k, k < l.length → w.cell? (a.add k) = .some (.int .u8 (l.getD k 0)) := by
  obtain ⟨a, h1, h2, _⟩ := h 0 (List.length_pos_iff.2 hl)
  refine ⟨a, h1, h2, fun k hk => ?_⟩
  obtain ⟨a', h1', _, h3'⟩ := h k hk
  rw [h1] at h1'
  cases h1'
  exact h3'
theorem ret_bool {a b : Bool} (h : a = b) : Ending.returned (.bool a) = .returned (.bool b) := by rw [h]
theorem below_drewN {B : Nat} {a w : World} (h : Below B a w) (n : Nat) : Below B a (w.drewN n) := ⟨h.os, h.tape, h.output, h.size, h.block⟩
theorem take_step {la lb : List Int} {j : Nat} (h : la.take j = lb.take j) (h1 : j < la.length) (h2 : j < lb.length) (he : la.getD j 0 = lb.getD j 0) : la.take (j + 1) = lb.take (j + 1) := by
  rw [List.take_succ_eq_append_getElem h1, List.take_succ_eq_append_getElem h2, h]
  simp [List.getD_eq_getElem?_getD, h1, h2] at he
  rw [he]
theorem not_same {la lb : List Int} {j : Nat} (he : ¬ la.getD j 0 = lb.getD j 0) : decide (la = lb) = false := decide_eq_false fun e => he (by rw [e])
theorem all_same {la lb : List Int} {j : Nat} (h : la.take j = lb.take j) (h1 : la.length ≤ j) (h2 : lb.length ≤ j) : la = lb := by
  rwa [List.take_of_length_le h1, List.take_of_length_le h2] at h
theorem less_drop : ∀ (j : Nat) (la lb : List Int), la.take j = lb.take j → j ≤ la.length → j ≤ lb.length → lessL la lb = lessL (la.drop j) (lb.drop j)
  | 0, _, _, _, _, _ => by simp
  | j + 1, [], _, _, h1, _ => by simp at h1
  | j + 1, _ :: _, [], _, _, h2 => by simp at h2
  | j + 1, x :: la, y :: lb, h, h1, h2 => by
    simp only [List.take_succ_cons, List.cons.injEq] at h
    obtain ⟨rfl, h⟩ := h
    rw [less_eq, less_drop j la lb h (by simpa using h1) (by simpa using h2)]
    rfl
theorem drop_at {la : List Int} {j : Nat} (h : j < la.length) : la.drop j = la.getD j 0 :: la.drop (j + 1) := by
  rw [List.drop_eq_getElem_cons h]
  simp [List.getD_eq_getElem?_getD, h]
theorem less_long {la lb : List Int} {j : Nat} (h : la.take j = lb.take j) (h1 : j ≤ la.length) (h2 : j = lb.length) : lessL la lb = false := by
  rw [less_drop j la lb h h1 (by omega), List.drop_of_length_le (by omega : lb.length ≤ j)]
  cases la.drop j <;> rfl
theorem less_here {la lb : List Int} {j : Nat} (h : la.take j = lb.take j) (h1 : j < la.length) (h2 : j < lb.length) (he : ¬ la.getD j 0 = lb.getD j 0) : lessL la lb = decide (la.getD j 0 < lb.getD j 0) := by
  rw [less_drop j la lb h (by omega) (by omega), drop_at h1, drop_at h2, lessL, if_neg he]
theorem less_end {la lb : List Int} {j : Nat} (h : la.take j = lb.take j) (h1 : j = la.length) (h2 : j ≤ lb.length) : lessL la lb = decide (la.length < lb.length) := by
  rw [less_drop j la lb h (by omega) h2, List.drop_of_length_le (by omega : la.length ≤ j)]
  by_cases e : j = lb.length
  · rw [List.drop_of_length_le (by omega)]
    exact (decide_eq_false (by omega)).symm
  · rw [drop_at (by omega : j < lb.length)]
    exact (decide_eq_true (by omega)).symm
set_option maxHeartbeats 400000 in
theorem same_len (ao bo : Option Addr) (n m ca cb : Nat) (w : World) (h : ¬ n = m) :
    Calls Try.prog 14 #[.slice ao n ca, .slice bo m cb] w fun e w' => e = .returned (.bool false) ∧ Below w.heap.size w w' := by
  have hne : ((n : Int) != m) = true := by rw [bne_iff_ne]; omega
  go_enter Try.func14, Try.ntmps14
  go_wp2
  go_ret
  exact ⟨rfl, Below.refl _ _⟩
set_option maxHeartbeats 400000 in
theorem same_none (ao bo : Option Addr) (ca cb : Nat) (w : World) :
    Calls Try.prog 14 #[.slice ao 0 ca, .slice bo 0 cb] w fun e w' => e = .returned (.bool true) ∧ Below w.heap.size w w' := by
  go_enter Try.func14, Try.ntmps14
  go_wp2
  refine wp_loop_rounds 1 ?_
  rw [rounds_succ]
  go_wp2
  go_ret
  exact ⟨rfl, Below.refl _ _⟩
set_option maxHeartbeats 800000 in
theorem same_some (a b : Addr) (n ca cb : Nat) (la lb : List Int) (w : World) (hn : n ≤ maxLen) (ha : la.length = n) (hb : lb.length = n) (ha0 : a.block < w.heap.size) (hb0 : b.block < w.heap.size)
    (hca : ∀ k, k < n → w.cell? (a.add k) = some (.int .u8 (la.getD k 0))) (hcb : ∀ k, k < n → w.cell? (b.add k) = some (.int .u8 (lb.getD k 0))) :
    Calls Try.prog 14 #[.slice (some a) n ca, .slice (some b) n cb] w fun e w' => e = .returned (.bool (decide (la = lb))) ∧ Below w.heap.size w w' := by
  unfold maxLen at hn
  have HA := Lib.hid hca
  have HB := Lib.hid hcb
  have La := Lib.hid ha
  have Lb := Lib.hid hb
  clear hca hcb ha hb
  go_enter Try.func14, Try.ntmps14
  go_wp2
  go_loopw [13] (fun i wr => ∃ j : Nat, j ≤ n ∧ i = .int .i64 j ∧ Hid (la.take j = lb.take j) ∧ Below w.heap.size w wr) (fun i _ => n - (intOf i).toNat)
  case atStart => exact ⟨0, Nat.zero_le _, rfl, Lib.hid rfl, Below.refl _ _⟩
  case round =>
    obtain ⟨j, hj, rfl, he, hB⟩ := hrel
    by_cases hlt : j < n
    · have c1 := (hB.cell (p := a.add j) (by rw [add_block]; exact ha0)).trans (HA.out j hlt)
      have c2 := (hB.cell (p := b.add j) (by rw [add_block]; exact hb0)).trans (HB.out j hlt)
      by_cases hne : la.getD j 0 = lb.getD j 0
      · have Hn := Lib.hid (take_step he.out (by rw [La.out]; exact hlt) (by rw [Lb.out]; exact hlt) hne)
        rw [hne] at c1
        clear hne
        generalize lb.getD j 0 = x at *
        go_wp2
        go_quiet (fail)
        go_wp2
        go_roundw
        case rel => exact ⟨j + 1, by omega, by go_num, Hn, below_drewN hB _⟩
        case measure => simp [intOf]; omega
      · have Hn := Lib.hid (not_same hne)
        have hx : (la.getD j 0 != lb.getD j 0) = true := by rw [bne_iff_ne]; exact hne
        clear hne
        generalize la.getD j 0 = x at *
        generalize lb.getD j 0 = y at *
        go_wp2
        go_quiet (fail)
        go_wp2
        go_ret
        exact ⟨ret_bool Hn.out.symm, below_drewN hB _⟩
    · go_wp2
      go_ret
      exact ⟨ret_bool (decide_eq_true (all_same he.out (by rw [La.out]; omega) (by rw [Lb.out]; omega))).symm, hB⟩
/-- SameBytes: are they alike? -/
theorem same_any (ao bo : Option Addr) (ca cb : Nat) (la lb : List Int) (w : World) (hn : la.length ≤ maxLen) (ha : Rd w ao la) (hb : Rd w bo lb) :
    Calls Try.prog 14 #[.slice ao la.length ca, .slice bo lb.length cb] w fun e w' => e = .returned (.bool (decide (la = lb))) ∧ Below w.heap.size w w' := by
  by_cases h : la.length = lb.length
  · by_cases h0 : la = []
    · subst h0
      obtain rfl : lb = [] := List.length_eq_zero_iff.1 h.symm
      exact same_none ao bo ca cb w
    · obtain ⟨a, rfl, a1, a2⟩ := ha.here h0
      obtain ⟨b, rfl, b1, b2⟩ := hb.here (fun e => h0 (by subst e; simpa using h))
      rw [← h]
      exact same_some a b la.length ca cb la lb w hn rfl h.symm a1 b1 a2 (fun k hk => b2 k (by omega))
  · rw [decide_eq_false (fun e => h (by rw [e]) : ¬ la = lb)]
    exact same_len ao bo _ _ ca cb w h
end Go.Proofs.Ytnjapbfnodfgpaa.Rk
