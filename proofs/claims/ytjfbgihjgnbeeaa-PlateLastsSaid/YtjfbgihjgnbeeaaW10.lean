/- plate: SameBytes, walked. -/
import Derived.Test.YtjfbgihjgnbeeaaV1
import Derived.BigQuiet
import Derived.Deep.QuietTactic
import Derived.Deep.RegionWith
namespace Go.Proofs.Ytjfbgihjgnbeeaa.Pl
open Go Go.RowKit
/-- From an address on these bytes stand, in blocks that are there. -/
def Rd (w : World) (ao : Option Addr) (l : List Int) : Prop :=
  ∀ k, k < l.length → ∃ a, ao = some a ∧ a.block < w.heap.size ∧ w.cell? (a.add k) = some (.int .u8 (l.getD k 0))
theorem Rd.nil (w : World) (ao : Option Addr) : Rd w ao [] := fun k hk => absurd hk (by simp)
theorem Rd.on {w w' : World} {ao : Option Addr} {l : List Int} (h : Rd w ao l) {B : Nat} (hb : Below B w w') (hB : w.heap.size ≤ B) : Rd w' ao l := by
  intro k hk
  obtain ⟨a, h1, h2, h3⟩ := h k hk
  exact ⟨a, h1, Nat.lt_of_lt_of_le h2 hb.size, (hb.cell (p := a.add k) (by rw [add_block]; exact Nat.lt_of_lt_of_le h2 hB)).trans h3⟩
theorem Rd.here {w : World} {ao : Option Addr} {l : List Int} (h : Rd w ao l) (hl : l ≠ []) : ∃ a, ao = .some a ∧ a.block < w.heap.size ∧ ∀ k, k < l.length → w.cell? (a.add k) = .some (.int .u8 (l.getD k 0)) := by
  obtain ⟨a, h1, h2, _⟩ := h 0 (List.length_pos_iff.2 hl)
  refine ⟨a, h1, h2, fun k hk => ?_⟩
  obtain ⟨a', h1', _, h3'⟩ := h k hk
  rw [h1] at h1'
  cases h1'
  exact h3'
theorem ret_bool {a b : Bool} (h : a = b) : Ending.returned (.bool a) = .returned (.bool b) := by rw [h]
theorem below_drewN {B : Nat} {a w : World} (h : Below B a w) (n : Nat) : Below B a (w.drewN n) := ⟨h.os, h.tape, h.output, h.size, h.block⟩
theorem take_step {la lb : List Int} {j : Nat} (h : la.take j = lb.take j) (h1 : j < la.length) (h2 : j < lb.length) (he : la.getD j 0 = lb.getD j 0) : la.take (j + 1) = lb.take (j + 1) := by
  rw [List.take_succ_eq_append_getElem h1, List.take_succ_eq_append_getElem h2, h]
  simp [List.getD_eq_getElem?_getD, h1, h2] at he
  rw [he]
theorem not_same {la lb : List Int} {j : Nat} (he : ¬ la.getD j 0 = lb.getD j 0) : decide (la = lb) = false := decide_eq_false fun e => he (by rw [e])
theorem all_same {la lb : List Int} {j : Nat} (h : la.take j = lb.take j) (h1 : la.length ≤ j) (h2 : lb.length ≤ j) : la = lb := by
  rwa [List.take_of_length_le h1, List.take_of_length_le h2] at h
set_option maxHeartbeats 400000 in
theorem same_len (ao bo : Option Addr) (n m ca cb : Nat) (w : World) (h : ¬ n = m) :
    Calls Try.prog 22 #[.slice ao n ca, .slice bo m cb] w fun e w' => e = .returned (.bool false) ∧ Below w.heap.size w w' := by
  have hne : ((n : Int) != m) = true := by rw [bne_iff_ne]; omega
  go_enter Try.func22, Try.ntmps22
  go_wp2
  go_ret
  exact ⟨rfl, Below.refl _ _⟩
set_option maxHeartbeats 400000 in
theorem same_none (ao bo : Option Addr) (ca cb : Nat) (w : World) :
    Calls Try.prog 22 #[.slice ao 0 ca, .slice bo 0 cb] w fun e w' => e = .returned (.bool true) ∧ Below w.heap.size w w' := by
  go_enter Try.func22, Try.ntmps22
  go_wp2
  refine wp_loop_rounds 1 ?_
  rw [rounds_succ]
  go_wp2
  go_ret
  exact ⟨rfl, Below.refl _ _⟩
set_option maxHeartbeats 800000 in
theorem same_some (a b : Addr) (n ca cb : Nat) (la lb : List Int) (w : World) (hn : n ≤ maxLen) (ha : la.length = n) (hb : lb.length = n) (ha0 : a.block < w.heap.size) (hb0 : b.block < w.heap.size)
    (hca : ∀ k, k < n → w.cell? (a.add k) = some (.int .u8 (la.getD k 0))) (hcb : ∀ k, k < n → w.cell? (b.add k) = some (.int .u8 (lb.getD k 0))) :
    Calls Try.prog 22 #[.slice (some a) n ca, .slice (some b) n cb] w fun e w' => e = .returned (.bool (decide (la = lb))) ∧ Below w.heap.size w w' := by
  unfold maxLen at hn
  have HA := Lib.hid hca
  have HB := Lib.hid hcb
  have La := Lib.hid ha
  have Lb := Lib.hid hb
  clear hca hcb ha hb
  go_enter Try.func22, Try.ntmps22
  go_wp2
  go_loopw [13] (fun i wr => ∃ j : Nat, j ≤ n ∧ i = .int .i64 j ∧ Hid (la.take j = lb.take j) ∧ Below w.heap.size w wr) (fun i _ => n - (intOf i).toNat)
  case atStart => exact ⟨0, Nat.zero_le _, rfl, Lib.hid rfl, Below.refl _ _⟩
  case round =>
    obtain ⟨j, hj, rfl, he, hB⟩ := hrel
    by_cases hlt : j < n
    · have c1 := (hB.cell (p := a.add j) (by rw [add_block]; exact ha0)).trans (HA.out j hlt)
      have c2 := (hB.cell (p := b.add j) (by rw [add_block]; exact hb0)).trans (HB.out j hlt)
      by_cases hne : la.getD j 0 = lb.getD j 0
      · have Hn := Lib.hid (take_step he.out (by rw [La.out]; exact hlt) (by rw [Lb.out]; exact hlt) hne)
        rw [hne] at c1
        clear hne
        generalize lb.getD j 0 = x at *
        go_wp2
        go_quiet (fail)
        go_wp2
        go_roundw
        case rel => exact ⟨j + 1, by omega, by go_num, Hn, below_drewN hB _⟩
        case measure => simp [intOf]; omega
      · have Hn := Lib.hid (not_same hne)
        have hx : (la.getD j 0 != lb.getD j 0) = true := by rw [bne_iff_ne]; exact hne
        clear hne
        generalize la.getD j 0 = x at *
        generalize lb.getD j 0 = y at *
        go_wp2
        go_quiet (fail)
        go_wp2
        go_ret
        exact ⟨ret_bool Hn.out.symm, below_drewN hB _⟩
    · go_wp2
      go_ret
      exact ⟨ret_bool (decide_eq_true (all_same he.out (by rw [La.out]; omega) (by rw [Lb.out]; omega))).symm, hB⟩
/-- SameBytes: are they alike? -/
theorem same_any (ao bo : Option Addr) (ca cb : Nat) (la lb : List Int) (w : World) (hn : la.length ≤ maxLen) (ha : Rd w ao la) (hb : Rd w bo lb) :
    Calls Try.prog 22 #[.slice ao la.length ca, .slice bo lb.length cb] w fun e w' => e = .returned (.bool (decide (la = lb))) ∧ Below w.heap.size w w' := by
  by_cases h : la.length = lb.length
  · by_cases h0 : la = []
    · subst h0
      obtain rfl : lb = [] := List.length_eq_zero_iff.1 h.symm
      exact same_none ao bo ca cb w
    · obtain ⟨a, rfl, a1, a2⟩ := ha.here h0
      obtain ⟨b, rfl, b1, b2⟩ := hb.here (fun e => h0 (by subst e; simpa using h))
      rw [← h]
      exact same_some a b la.length ca cb la lb w hn rfl h.symm a1 b1 a2 (fun k hk => b2 k (by omega))
  · rw [decide_eq_false (fun e => h (by rw [e]) : ¬ la = lb)]
    exact same_len ao bo _ _ ca cb w h
def nums (l : List Value) : List Int := l.map fun x => num (some x)
theorem nums_len (l : List Value) : (nums l).length = l.length := by simp [nums]
theorem nums_inj {a b : List Value} (ha : ∀ x ∈ a, IsByte x) (hb : ∀ x ∈ b, IsByte x) (h : nums a = nums b) : a = b := by
  induction a generalizing b with
  | nil => cases b with
    | nil => rfl
    | cons y b => simp [nums] at h
  | cons x a ih => cases b with
    | nil => simp [nums] at h
    | cons y b =>
      obtain ⟨n, rfl, _⟩ := ha x (List.mem_cons_self ..)
      obtain ⟨m, rfl, _⟩ := hb y (List.mem_cons_self ..)
      simp [nums, num] at h
      rw [h.1, ih (fun z hz => ha z (List.mem_cons_of_mem _ hz)) (fun z hz => hb z (List.mem_cons_of_mem _ hz)) (by simpa [nums, num] using h.2)]
theorem src_rd {w : World} {ao : Option Addr} {l : List Value} (h : Src w ao l) : Rd w ao (nums l) := fun k hk => by
  rw [nums_len] at hk
  obtain ⟨ad, e, hc⟩ := h.1 (by omega)
  obtain ⟨n, en, _⟩ := h.2 l[k] (List.getElem_mem hk)
  have h1 := hc k l[k] (List.getElem?_eq_getElem hk)
  have hb := World.block_lt_of_cell? w _ h1
  rw [add_block] at hb
  refine ⟨ad, e, hb, ?_⟩
  rw [h1, en]
  simp [nums, List.getD_eq_getElem?_getD, hk, en, num]
/-- SameBytes of bytes that stand somewhere. -/
theorem same_src (ao bo : Option Addr) (n m ca cb : Nat) (la lb : List Value) (w : World) (hn : la.length = n) (hm : lb.length = m) (hx : n ≤ maxLen) (ha : Src w ao la) (hb : Src w bo lb) :
    Calls Try.prog 22 #[.slice ao n ca, .slice bo m cb] w fun e w' => e = .returned (.bool (decide (nums la = nums lb))) ∧ Below w.heap.size w w' := by
  have := same_any ao bo ca cb (nums la) (nums lb) w (by rw [nums_len]; omega) (src_rd ha) (src_rd hb)
  rwa [nums_len, nums_len, hn, hm] at this
end Go.Proofs.Ytjfbgihjgnbeeaa.Pl
