/- The walks of ReadUint and ReadInt. -/
import Derived.Test.YtnjapbfnodfgpaaW10
namespace Go.Proofs.Ytnjapbfnodfgpaa.Rk
open Go Go.RowKit
/-- What ReadUint answers: the number, how long its code is; or nothing. -/
def ruR : List Int → Option (Int × Int)
  | [] => none
  | x :: l => (readR l x.toNat).map fun n => (n, 1 + x)
theorem ruR_cons (x : Nat) (l : List Int) : ruR ((x : Int) :: l) = (readR l x).map fun n => (n, 1 + (x : Int)) := by
  show (readR l (x : Int).toNat).map _ = _
  rw [Int.toNat_natCast]
def tri (k : IntKind) (r : Option (Int × Int)) : Value := match r with
  | none => .tuple #[.int k 0, .int .i64 0, .int .i64 3]
  | some (n, i) => .tuple #[.int k n, .int .i64 i, .int .i64 0]
set_option maxHeartbeats 1000000 in
theorem ru_none (ao : Option Addr) (c : Nat) (w : World) :
    Calls Try.prog 19 #[.slice ao 0 c] w fun e w' => e = .returned (tri .u64 none) ∧ Below w.heap.size w w' := by
  go_enter Try.func19, Try.ntmps19
  go_wp2
  go_ret3
  exact ⟨rfl, Below.refl _ _⟩
theorem add_tail (a : Addr) (k : Nat) : (⟨a.block, a.off + 1, none⟩ : Addr).add k = a.add (k + 1) := by
  unfold Addr.add
  by_cases h : k = 0
  · subst h; simp
  · simp [h]; omega
theorem Rd.tail {w : World} {a : Addr} {x : Int} {l : List Int} (h : Rd w (some a) (x :: l)) : Rd w (some ⟨a.block, a.off + 1, none⟩) l := by
  intro k hk
  obtain ⟨a', h1, h2, h3⟩ := h (k + 1) (by simp; omega)
  cases h1
  exact ⟨_, rfl, h2, by rw [add_tail]; exact h3⟩
set_option maxHeartbeats 1000000 in
theorem ru_one (a : Addr) (x : Nat) (w : World) (hx : x ≤ 255) (c0 : w.cell? a = some (.int .u8 x)) :
    Calls Try.prog 19 #[.slice (some a) 1 1] w fun e w' => e = .returned (tri .u64 (ruR [(x : Int)])) ∧ Below w.heap.size w w' := by
  have hr := read_any (some a) 0 0 x [] w (by omega) (by unfold maxLen; omega) rfl (by omega) (Rd.nil _ _) (by simp)
  rw [ruR_cons]
  cases h : readR [] x with
  | none =>
    rw [h] at hr
    have Hr := Lib.hid hr
    clear hr h
    go_enter Try.func19, Try.ntmps19
    go_wp2_with (go_at_call 31; refine Hr.out.mono ?_; clear Hr; rintro e w1 ⟨rfl, hB⟩)
    go_ret3
    exact ⟨rfl, hB⟩
  | some v =>
    rw [h] at hr
    have Hr := Lib.hid hr
    clear hr h
    go_enter Try.func19, Try.ntmps19
    go_wp2_with (go_at_call 31; refine Hr.out.mono ?_; clear Hr; rintro e w1 ⟨rfl, hB⟩)
    go_ret3
    exact ⟨rfl, hB⟩
set_option maxHeartbeats 1000000 in
theorem ru_some (a : Addr) (n c x : Nat) (l : List Int) (w : World) (hnc : n + 1 ≤ c) (hcm : c ≤ maxLen) (hc1 : ¬ c = 1) (hl : l.length = n) (hx : x ≤ 255)
    (hR : Rd w (some a) ((x : Int) :: l)) (c0 : w.cell? a = some (.int .u8 x)) (hb : ∀ y ∈ l, 0 ≤ y ∧ y ≤ 255) :
    Calls Try.prog 19 #[.slice (some a) (n + 1) c] w fun e w' => e = .returned (tri .u64 (ruR ((x : Int) :: l))) ∧ Below w.heap.size w w' := by
  have hr := read_any (some ⟨a.block, a.off + 1, none⟩) n (c - 1) x l w (by omega) (by unfold maxLen at *; omega) hl (by omega) hR.tail hb
  unfold maxLen at hcm
  have hn1 : ((n : Int) + 1 == 0) = false := by rw [beq_eq_false_iff_ne]; omega
  rw [ruR_cons]
  clear hR hb hl
  cases h : readR l x with
  | none =>
    rw [h] at hr
    have Hr := Lib.hid hr
    clear hr h
    go_enter Try.func19, Try.ntmps19
    go_wp2_with (go_at_call 31; refine Hr.out.mono ?_; clear Hr; rintro e w1 ⟨rfl, hB⟩)
    go_ret3
    exact ⟨rfl, hB⟩
  | some v =>
    rw [h] at hr
    have Hr := Lib.hid hr
    clear hr h
    go_enter Try.func19, Try.ntmps19
    go_wp2_with (go_at_call 31; refine Hr.out.mono ?_; clear Hr; rintro e w1 ⟨rfl, hB⟩)
    go_ret3
    exact ⟨rfl, hB⟩
/-- ReadUint: the number with whose code these begin. -/
theorem ru_any (ao : Option Addr) (n c : Nat) (l : List Int) (w : World) (hnc : n ≤ c) (hcm : c ≤ maxLen) (hl : l.length = n) (ha : Rd w ao l) (hb : ∀ y ∈ l, 0 ≤ y ∧ y ≤ 255) :
    Calls Try.prog 19 #[.slice ao n c] w fun e w' => e = .returned (tri .u64 (ruR l)) ∧ Below w.heap.size w w' := by
  subst hl
  cases l with
  | nil => exact ru_none ao c w
  | cons y l =>
    obtain ⟨a, rfl, a1, a2⟩ := ha.here (by simp)
    have hy := hb y (by simp)
    obtain ⟨x, rfl⟩ : ∃ x : Nat, y = x := ⟨y.toNat, by omega⟩
    have c0 := a2 0 (by simp)
    rw [add_zero, List.getD_cons_zero] at c0
    by_cases hc1 : c = 1
    · subst hc1
      obtain rfl : l = [] := List.length_eq_zero_iff.1 (by simpa using hnc)
      exact ru_one a x w (by omega) c0
    · exact ru_some a l.length c x l w hnc hcm hc1 rfl (by omega) ha c0 (fun z hz => hb z (by simp [hz]))
end Go.Proofs.Ytnjapbfnodfgpaa.Rk
