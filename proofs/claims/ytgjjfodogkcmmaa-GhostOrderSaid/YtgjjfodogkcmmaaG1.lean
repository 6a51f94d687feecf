/- The walks of the small functions. -/
import Derived.Test.YtgjjfodogkcmmaaS1
import Derived.Test.YtgjjfodogkcmmaaG0
namespace Go.Proofs.Ytgjjfodogkcmmaa.Vl
open Go Go.RowKit
set_option maxHeartbeats 400000 in
theorem isLetter_yes (c : Int) (w : World) (h : letB c = true) :
    Calls Try.prog 87 #[.int .u8 c] w fun e w' => e = .returned (.bool true) ∧ w = w' := by
  have h1 := of_decide_eq_true h
  clear h
  rcases h1 with ⟨a, b⟩ | ⟨a, b⟩ | rfl | rfl
  all_goals
    go_enter Try.func87, Try.ntmps87
    go_wp2
  all_goals
    go_ret
    exact ⟨rfl, rfl⟩
set_option maxHeartbeats 400000 in
theorem isLetter_no (c : Int) (w : World) (h : letB c = false) :
    Calls Try.prog 87 #[.int .u8 c] w fun e w' => e = .returned (.bool false) ∧ w = w' := by
  have h1 := of_decide_eq_false h
  clear h
  have h2 : c < 45 ∨ (47 ≤ c ∧ c < 48) ∨ (57 < c ∧ c < 97) ∨ 122 < c := by omega
  have e1 : (c == 46) = false := by rw [beq_eq_false_iff_ne]; omega
  have e2 : (c == 45) = false := by rw [beq_eq_false_iff_ne]; omega
  clear h1
  rcases h2 with a | ⟨a, b⟩ | ⟨a, b⟩ | a
  all_goals
    go_enter Try.func87, Try.ntmps87
    go_wp2
  all_goals
    go_ret
    exact ⟨by simp <;> omega, rfl⟩
theorem isLetter_any (c : Int) (w : World) :
    Calls Try.prog 87 #[.int .u8 c] w fun e w' => e = .returned (.bool (letB c)) ∧ w = w' := by
  cases h : letB c
  · exact isLetter_no c w h
  · exact isLetter_yes c w h
def textB (s : ByteArray) : Bool := decide (s.size ≤ 8) && lettersB s.data.toList
theorem ret_bool {a b : Bool} (h : a = b) : Ending.returned (.bool a) = .returned (.bool b) := by rw [h]
set_option maxHeartbeats 800000 in
theorem isText_any (s : ByteArray) (w : World) (hs : s.size ≤ maxLen) :
    Calls Try.prog 85 #[.string s] w fun e w' => e = .returned (.bool (textB s)) ∧ w = w' := by
  unfold maxLen at hs
  by_cases h8 : s.size ≤ 8
  · go_enter Try.func85, Try.ntmps85
    go_wp2
    go_loop [9] (fun i => ∃ k : Nat, k ≤ s.size ∧ i = .int .i64 k ∧ lettersB (s.data.toList.take k) = true) (fun i => s.size - (intOf i).toNat)
    case atStart => exact ⟨0, Nat.zero_le _, rfl, rfl⟩
    case round =>
      obtain ⟨k, hk, rfl, hl⟩ := hrel
      have Hl := Lib.hid hl
      clear hl
      by_cases hlt : k < s.size
      · cases hb : letB (s[k].toNat : Int)
        · have Hb := Lib.hid hb
          clear hb
          go_wp2_with (go_at_call 87; refine (isLetter_no _ _ Hb.out).mono ?_; rintro e w' ⟨rfl, rfl⟩)
          go_ret
          exact ⟨ret_bool (by unfold textB; rw [letters_not s k hlt Hb.out]; simp), rfl⟩
        · have Hb := Lib.hid hb
          clear hb
          go_wp2_with (go_at_call 87; refine (isLetter_yes _ _ Hb.out).mono ?_; rintro e w' ⟨rfl, rfl⟩)
          go_round
          case rel => exact ⟨k + 1, by omega, by go_num, by rw [letters_snoc s k hlt, Hl.out, Hb.out]; rfl⟩
          case measure => simp [intOf]; omega
      · go_wp2
        go_ret
        exact ⟨ret_bool (by unfold textB; rw [← Hl.out, List.take_of_length_le (by simp; omega)]; simp [h8]), rfl⟩
  · have h8' : 8 < s.size := by omega
    go_enter Try.func85, Try.ntmps85
    go_wp2
    go_ret
    exact ⟨ret_bool (by unfold textB; simp [h8]), rfl⟩
end Go.Proofs.Ytgjjfodogkcmmaa.Vl
