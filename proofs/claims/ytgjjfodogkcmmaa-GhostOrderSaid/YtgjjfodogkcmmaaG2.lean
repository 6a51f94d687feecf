/- The walks of Form and Check. -/
import Derived.Test.YtgjjfodogkcmmaaG1
namespace Go.Proofs.Ytgjjfodogkcmmaa.Vl
open Go Go.RowKit
abbrev val (k n : Int) (s : ByteArray) : Value := .agg #[.int .u8 k, .int .i64 n, .string s]
theorem box_below (w : World) (o : Obj) : Below w.heap.size w (w.alloc o) := (Below.refl _ _).alloc (Nat.le_refl _) _
theorem nil_data {s : ByteArray} (h : s.toList = []) : s.data.toList = [] := by rw [← ByteArray.toList_eq]; exact h
theorem nnil_data {s : ByteArray} (h : ¬ s.toList = []) : ¬ s.data.toList = [] := by rw [← ByteArray.toList_eq]; exact h
theorem size_nil (s : ByteArray) : ((s.size : Int) == 0) = decide (s.data.toList = []) := by
  have h : s.data.toList.length = s.size := Array.length_toList
  rw [Bool.eq_iff_iff, beq_iff_eq, decide_eq_true_iff, ← List.length_eq_zero_iff, h]
  omega
set_option maxHeartbeats 400000 in
theorem form_0 (n : Int) (s : ByteArray) (w : World) :
    Calls Try.prog 39 #[val 0 n s] w fun e w' => e = .returned (.bool (formB 0 n s.data.toList)) ∧ Below w.heap.size w w' := by
  by_cases hn : n = 0
  · subst hn
    by_cases he : s.toList = []
    · have fin : formB 0 0 s.data.toList = true := by unfold formB; simp [nil_data he]
      have Fin := Lib.hid fin
      clear fin
      go_enter Try.func39, Try.ntmps39
      go_wp2
      go_ret
      exact ⟨ret_bool Fin.out.symm, box_below _ _⟩
    · have fin : formB 0 0 s.data.toList = false := by unfold formB; simp; exact fun h => nnil_data he (by simp [h])
      have Fin := Lib.hid fin
      clear fin
      go_enter Try.func39, Try.ntmps39
      go_wp2
      go_ret
      exact ⟨ret_bool Fin.out.symm, box_below _ _⟩
  · go_enter Try.func39, Try.ntmps39
    go_wp2
    all_goals go_ret
    exact ⟨ret_bool (by unfold formB; simp [hn]), box_below _ _⟩
set_option maxHeartbeats 400000 in
theorem form_1 (n : Int) (s : ByteArray) (w : World) (_hs : s.size ≤ maxLen) :
    Calls Try.prog 39 #[val 1 n s] w fun e w' => e = .returned (.bool (formB 1 n s.data.toList)) ∧ Below w.heap.size w w' := by
  go_enter Try.func39, Try.ntmps39
  go_wp2
  go_ret
  exact ⟨ret_bool (by unfold formB; rw [size_nil]; simp), box_below _ _⟩
theorem form_len (n : Int) (s : ByteArray) (h : 8 < s.size) : formB 2 n s.data.toList = false := by
  unfold formB; simp; intros; omega
set_option maxHeartbeats 2000000 in
theorem form_2 (n : Int) (s : ByteArray) (w : World) (hs : s.size ≤ maxLen) :
    Calls Try.prog 39 #[val 2 n s] w fun e w' => e = .returned (.bool (formB 2 n s.data.toList)) ∧ Below w.heap.size w w' := by
  unfold maxLen at hs
  by_cases hn : n = 0
  · subst hn
    by_cases h8 : s.size ≤ 8
    · go_enter Try.func39, Try.ntmps39
      go_wp2
      go_loop [3] (fun i => ∃ k : Nat, k ≤ s.size ∧ i = .int .i64 k ∧ lettersB (s.data.toList.take k) = true) (fun i => s.size - (intOf i).toNat)
      case atStart => exact ⟨0, Nat.zero_le _, rfl, rfl⟩
      case round =>
        obtain ⟨k, hk, rfl, hl⟩ := hrel
        have Hl := Lib.hid hl
        clear hl
        by_cases hlt : k < s.size
        · cases hb : letB (s[k].toNat : Int)
          · have Hb := Lib.hid hb
            have h1 := of_decide_eq_false hb
            clear hb
            have h2 : (s[k].toNat : Int) < 45 ∨ (47 ≤ (s[k].toNat : Int) ∧ (s[k].toNat : Int) < 48) ∨ (57 < (s[k].toNat : Int) ∧ (s[k].toNat : Int) < 97) ∨ 122 < (s[k].toNat : Int) := by omega
            have e1 : ((s[k].toNat : Int) != 46) = true := by rw [bne_iff_ne]; omega
            have e2 : ((s[k].toNat : Int) != 45) = true := by rw [bne_iff_ne]; omega
            clear h1
            have fin : formB 2 0 s.data.toList = false := by unfold formB; rw [letters_not s k hlt Hb.out]; simp
            have Fin := Lib.hid fin
            clear fin
            rcases h2 with a | ⟨a, b⟩ | ⟨a, b⟩ | a
            all_goals
              try (have d4 : decide ((s[k].toNat : Int) ≤ 57) = false := decide_eq_false (by omega))
              try (have d2 : decide ((s[k].toNat : Int) ≤ 122) = false := decide_eq_false (by omega))
              try (have d2 : decide ((s[k].toNat : Int) ≤ 122) = true := decide_eq_true (by omega))
              go_wp2
              go_ret
              exact ⟨ret_bool Fin.out.symm, box_below _ _⟩
          · have Hb := Lib.hid hb
            have h1 := of_decide_eq_true hb
            clear hb
            rcases h1 with ⟨a, b⟩ | ⟨a, b⟩ | a | a
            all_goals
              try (have d4 : decide ((s[k].toNat : Int) ≤ 57) = false := decide_eq_false (by omega))
              try (have d4 : decide ((s[k].toNat : Int) ≤ 57) = true := decide_eq_true (by omega))
              try (have d2 : decide ((s[k].toNat : Int) ≤ 122) = true := decide_eq_true (by omega))
              go_wp2
              go_round
              case rel => exact ⟨k + 1, by omega, by go_num, by rw [letters_snoc s k hlt, Hl.out, Hb.out]; rfl⟩
              case measure => simp [intOf]; omega
        · go_wp2
          go_ret
          have hall := Hl.out
          rw [List.take_of_length_le (by simp; omega)] at hall
          exact ⟨ret_bool (by unfold formB; simp [h8, hall]), box_below _ _⟩
    · have h8' : 8 < s.size := by omega
      go_enter Try.func39, Try.ntmps39
      go_wp2
      go_ret
      exact ⟨ret_bool (form_len _ _ h8').symm, box_below _ _⟩
  · go_enter Try.func39, Try.ntmps39
    go_wp2
    go_ret
    exact ⟨ret_bool (by unfold formB; simp [hn]), box_below _ _⟩
set_option maxHeartbeats 400000 in
theorem form_other (k n : Int) (s : ByteArray) (w : World) (h0 : k ≠ 0) (h1 : k ≠ 1) (h2 : k ≠ 2) :
    Calls Try.prog 39 #[val k n s] w fun e w' => e = .returned (.bool (formB k n s.data.toList)) ∧ Below w.heap.size w w' := by
  have fin : formB k n s.data.toList = false := by unfold formB; simp [h0, h1, h2]
  have Fin := Lib.hid fin
  clear fin
  go_enter Try.func39, Try.ntmps39
  go_wp2
  go_ret
  exact ⟨ret_bool Fin.out.symm, box_below _ _⟩
/-- Form: is it in form? -/
theorem form_any (k n : Int) (s : ByteArray) (w : World) (hs : s.size ≤ maxLen) :
    Calls Try.prog 39 #[val k n s] w fun e w' => e = .returned (.bool (formB k n s.data.toList)) ∧ Below w.heap.size w w' := by
  by_cases h0 : k = 0
  · subst h0; exact form_0 n s w
  by_cases h1 : k = 1
  · subst h1; exact form_1 n s w hs
  by_cases h2 : k = 2
  · subst h2; exact form_2 n s w hs
  exact form_other k n s w h0 h1 h2
end Go.Proofs.Ytgjjfodogkcmmaa.Vl
