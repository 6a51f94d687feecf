/- The plain mathematics of values: which are in form, their order. -/
import Derived.WalkKit
import Derived.BigQuiet
import Derived.Deep.QuietTactic
import Derived.Deep.RegionWith
import Derived.Lib.Hide
import Derived.Test.YtafenkepigmcaaaGreatDoorSA
namespace Go.Proofs.YtafenkepigmcaaaGreatDoor.Vl
open Go Go.RowKit

def letB (c : Int) : Bool := decide ((97 ≤ c ∧ c ≤ 122) ∨ (48 ≤ c ∧ c ≤ 57) ∨ c = 46 ∨ c = 45)
def lettersB (l : List UInt8) : Bool := l.all fun c => letB c.toNat
def formB (k n : Int) (l : List UInt8) : Bool :=
  decide ((k = 0 ∧ n = 0 ∧ l = []) ∨ (k = 1 ∧ l = []) ∨ (k = 2 ∧ n = 0 ∧ l.length ≤ 8 ∧ lettersB l = true))

theorem letters_take_succ (s : ByteArray) (k : Nat) (h : k < s.size) : s.data.toList.take (k + 1) = s.data.toList.take k ++ [s[k]] := by
  rw [List.take_succ_eq_append_getElem (by simpa using h)]; rfl
theorem letters_snoc (s : ByteArray) (k : Nat) (h : k < s.size) :
    lettersB (s.data.toList.take (k + 1)) = (lettersB (s.data.toList.take k) && letB (s[k].toNat : Int)) := by
  rw [letters_take_succ s k h]; simp [lettersB, List.all_append]
theorem letters_not (s : ByteArray) (k : Nat) (h : k < s.size) (hb : letB (s[k].toNat : Int) = false) : lettersB s.data.toList = false := by
  rw [← List.take_append_drop (k + 1) s.data.toList]
  unfold lettersB
  rw [List.all_append]
  have := letters_snoc s k h
  unfold lettersB at this
  rw [this, hb]; simp
end Go.Proofs.YtafenkepigmcaaaGreatDoor.Vl
/- The walks of the small functions. -/
namespace Go.Proofs.YtafenkepigmcaaaGreatDoor.Vl
open Go Go.RowKit
set_option maxHeartbeats 400000 in
theorem isLetter_yes (c : Int) (w : World) (h : letB c = true) :
    Calls Tryz.prog 175 #[.int .u8 c] w fun e w' => e = .returned (.bool true) ∧ w = w' := by
  have h1 := of_decide_eq_true h
  clear h
  rcases h1 with ⟨a, b⟩ | ⟨a, b⟩ | rfl | rfl
  all_goals
    go_enter Tryz.func175, Tryz.ntmps175
    go_wp2
  all_goals
    go_ret
    exact ⟨rfl, rfl⟩
set_option maxHeartbeats 400000 in
theorem isLetter_no (c : Int) (w : World) (h : letB c = false) :
    Calls Tryz.prog 175 #[.int .u8 c] w fun e w' => e = .returned (.bool false) ∧ w = w' := by
  have h1 := of_decide_eq_false h
  clear h
  have h2 : c < 45 ∨ (47 ≤ c ∧ c < 48) ∨ (57 < c ∧ c < 97) ∨ 122 < c := by omega
  have e1 : (c == 46) = false := by rw [beq_eq_false_iff_ne]; omega
  have e2 : (c == 45) = false := by rw [beq_eq_false_iff_ne]; omega
  clear h1
  rcases h2 with a | ⟨a, b⟩ | ⟨a, b⟩ | a
  all_goals
    go_enter Tryz.func175, Tryz.ntmps175
    go_wp2
  all_goals
    go_ret
    exact ⟨by simp <;> omega, rfl⟩
theorem isLetter_any (c : Int) (w : World) :
    Calls Tryz.prog 175 #[.int .u8 c] w fun e w' => e = .returned (.bool (letB c)) ∧ w = w' := by
  cases h : letB c
  · exact isLetter_no c w h
  · exact isLetter_yes c w h
def textB (s : ByteArray) : Bool := decide (s.size ≤ 8) && lettersB s.data.toList
theorem ret_bool {a b : Bool} (h : a = b) : Ending.returned (.bool a) = .returned (.bool b) := by rw [h]
set_option maxHeartbeats 800000 in
theorem isText_any (s : ByteArray) (w : World) (hs : s.size ≤ maxLen) :
    Calls Tryz.prog 160 #[.string s] w fun e w' => e = .returned (.bool (textB s)) ∧ w = w' := by
  unfold maxLen at hs
  by_cases h8 : s.size ≤ 8
  · go_enter Tryz.func160, Tryz.ntmps160
    go_wp2
    go_loop [9] (fun i => ∃ k : Nat, k ≤ s.size ∧ i = .int .i64 k ∧ lettersB (s.data.toList.take k) = true) (fun i => s.size - (intOf i).toNat)
    case atStart => exact ⟨0, Nat.zero_le _, rfl, rfl⟩
    case round =>
      obtain ⟨k, hk, rfl, hl⟩ := hrel
      have Hl := Lib.hid hl
      clear hl
      by_cases hlt : k < s.size
      · cases hb : letB (s[k].toNat : Int)
        · have Hb := Lib.hid hb
          clear hb
          go_wp2_with (go_at_call 175; refine (isLetter_no _ _ Hb.out).mono ?_; rintro e w' ⟨rfl, rfl⟩)
          go_ret
          exact ⟨ret_bool (by unfold textB; rw [letters_not s k hlt Hb.out]; simp), rfl⟩
        · have Hb := Lib.hid hb
          clear hb
          go_wp2_with (go_at_call 175; refine (isLetter_yes _ _ Hb.out).mono ?_; rintro e w' ⟨rfl, rfl⟩)
          go_round
          case rel => exact ⟨k + 1, by omega, by go_num, by rw [letters_snoc s k hlt, Hl.out, Hb.out]; rfl⟩
          case measure => simp [intOf]; omega
      · go_wp2
        go_ret
        exact ⟨ret_bool (by unfold textB; rw [← Hl.out, List.take_of_length_le (by simp; omega)]; simp [h8]), rfl⟩
  · have h8' : 8 < s.size := by omega
    go_enter Tryz.func160, Tryz.ntmps160
    go_wp2
    go_ret
    exact ⟨ret_bool (by unfold textB; simp [h8]), rfl⟩
end Go.Proofs.YtafenkepigmcaaaGreatDoor.Vl
/- The walks of Form and Check. -/
namespace Go.Proofs.YtafenkepigmcaaaGreatDoor.Vl
open Go Go.RowKit
abbrev val (k n : Int) (s : ByteArray) : Value := .agg #[.int .u8 k, .int .i64 n, .string s]
theorem box_below (w : World) (o : Obj) : Below w.heap.size w (w.alloc o) := (Below.refl _ _).alloc (Nat.le_refl _) _
theorem nil_data {s : ByteArray} (h : s.toList = []) : s.data.toList = [] := by rw [← ByteArray.toList_eq]; exact h
theorem nnil_data {s : ByteArray} (h : ¬ s.toList = []) : ¬ s.data.toList = [] := by rw [← ByteArray.toList_eq]; exact h
theorem size_nil (s : ByteArray) : ((s.size : Int) == 0) = decide (s.data.toList = []) := by
  have h : s.data.toList.length = s.size := Array.length_toList
  rw [Bool.eq_iff_iff, beq_iff_eq, decide_eq_true_iff, ← List.length_eq_zero_iff, h]
  omega
set_option maxHeartbeats 400000 in
theorem form_0 (n : Int) (s : ByteArray) (w : World) :
    Calls Tryz.prog 95 #[val 0 n s] w fun e w' => e = .returned (.bool (formB 0 n s.data.toList)) ∧ Below w.heap.size w w' := by
  by_cases hn : n = 0
  · subst hn
    by_cases he : s.toList = []
    · have fin : formB 0 0 s.data.toList = true := by unfold formB; simp [nil_data he]
      have Fin := Lib.hid fin
      clear fin
      go_enter Tryz.func95, Tryz.ntmps95
      go_wp2
      go_ret
      exact ⟨ret_bool Fin.out.symm, box_below _ _⟩
    · have fin : formB 0 0 s.data.toList = false := by unfold formB; simp; exact fun h => nnil_data he (by simp [h])
      have Fin := Lib.hid fin
      clear fin
      go_enter Tryz.func95, Tryz.ntmps95
      go_wp2
      go_ret
      exact ⟨ret_bool Fin.out.symm, box_below _ _⟩
  · go_enter Tryz.func95, Tryz.ntmps95
    go_wp2
    all_goals go_ret
    exact ⟨ret_bool (by unfold formB; simp [hn]), box_below _ _⟩
set_option maxHeartbeats 400000 in
theorem form_1 (n : Int) (s : ByteArray) (w : World) (_hs : s.size ≤ maxLen) :
    Calls Tryz.prog 95 #[val 1 n s] w fun e w' => e = .returned (.bool (formB 1 n s.data.toList)) ∧ Below w.heap.size w w' := by
  go_enter Tryz.func95, Tryz.ntmps95
  go_wp2
  go_ret
  exact ⟨ret_bool (by unfold formB; rw [size_nil]; simp), box_below _ _⟩
theorem form_len (n : Int) (s : ByteArray) (h : 8 < s.size) : formB 2 n s.data.toList = false := by
  unfold formB; simp; intros; omega
set_option maxHeartbeats 2000000 in
theorem form_2 (n : Int) (s : ByteArray) (w : World) (hs : s.size ≤ maxLen) :
    Calls Tryz.prog 95 #[val 2 n s] w fun e w' => e = .returned (.bool (formB 2 n s.data.toList)) ∧ Below w.heap.size w w' := by
  unfold maxLen at hs
  by_cases hn : n = 0
  · subst hn
    by_cases h8 : s.size ≤ 8
    · go_enter Tryz.func95, Tryz.ntmps95
      go_wp2
      go_loop [3] (fun i => ∃ k : Nat, k ≤ s.size ∧ i = .int .i64 k ∧ lettersB (s.data.toList.take k) = true) (fun i => s.size - (intOf i).toNat)
      case atStart => exact ⟨0, Nat.zero_le _, rfl, rfl⟩
      case round =>
        obtain ⟨k, hk, rfl, hl⟩ := hrel
        have Hl := Lib.hid hl
        clear hl
        by_cases hlt : k < s.size
        · cases hb : letB (s[k].toNat : Int)
          · have Hb := Lib.hid hb
            have h1 := of_decide_eq_false hb
            clear hb
            have h2 : (s[k].toNat : Int) < 45 ∨ (47 ≤ (s[k].toNat : Int) ∧ (s[k].toNat : Int) < 48) ∨ (57 < (s[k].toNat : Int) ∧ (s[k].toNat : Int) < 97) ∨ 122 < (s[k].toNat : Int) := by omega
            have e1 : ((s[k].toNat : Int) != 46) = true := by rw [bne_iff_ne]; omega
            have e2 : ((s[k].toNat : Int) != 45) = true := by rw [bne_iff_ne]; omega
            clear h1
            have fin : formB 2 0 s.data.toList = false := by unfold formB; rw [letters_not s k hlt Hb.out]; simp
            have Fin := Lib.hid fin
            clear fin
            rcases h2 with a | ⟨a, b⟩ | ⟨a, b⟩ | a
            all_goals
              try (have d4 : decide ((s[k].toNat : Int) ≤ 57) = false := decide_eq_false (by omega))
              try (have d2 : decide ((s[k].toNat : Int) ≤ 122) = false := decide_eq_false (by omega))
              try (have d2 : decide ((s[k].toNat : Int) ≤ 122) = true := decide_eq_true (by omega))
              go_wp2
              go_ret
              exact ⟨ret_bool Fin.out.symm, box_below _ _⟩
          · have Hb := Lib.hid hb
            have h1 := of_decide_eq_true hb
            clear hb
            rcases h1 with ⟨a, b⟩ | ⟨a, b⟩ | a | a
            all_goals
              try (have d4 : decide ((s[k].toNat : Int) ≤ 57) = false := decide_eq_false (by omega))
              try (have d4 : decide ((s[k].toNat : Int) ≤ 57) = true := decide_eq_true (by omega))
              try (have d2 : decide ((s[k].toNat : Int) ≤ 122) = true := decide_eq_true (by omega))
              go_wp2
              go_round
              case rel => exact ⟨k + 1, by omega, by go_num, by rw [letters_snoc s k hlt, Hl.out, Hb.out]; rfl⟩
              case measure => simp [intOf]; omega
        · go_wp2
          go_ret
          have hall := Hl.out
          rw [List.take_of_length_le (by simp; omega)] at hall
          exact ⟨ret_bool (by unfold formB; simp [h8, hall]), box_below _ _⟩
    · have h8' : 8 < s.size := by omega
      go_enter Tryz.func95, Tryz.ntmps95
      go_wp2
      go_ret
      exact ⟨ret_bool (form_len _ _ h8').symm, box_below _ _⟩
  · go_enter Tryz.func95, Tryz.ntmps95
    go_wp2
    go_ret
    exact ⟨ret_bool (by unfold formB; simp [hn]), box_below _ _⟩
set_option maxHeartbeats 400000 in
theorem form_other (k n : Int) (s : ByteArray) (w : World) (h0 : k ≠ 0) (h1 : k ≠ 1) (h2 : k ≠ 2) :
    Calls Tryz.prog 95 #[val k n s] w fun e w' => e = .returned (.bool (formB k n s.data.toList)) ∧ Below w.heap.size w w' := by
  have fin : formB k n s.data.toList = false := by unfold formB; simp [h0, h1, h2]
  have Fin := Lib.hid fin
  clear fin
  go_enter Tryz.func95, Tryz.ntmps95
  go_wp2
  go_ret
  exact ⟨ret_bool Fin.out.symm, box_below _ _⟩
/-- Form: is it in form? -/
theorem form_any (k n : Int) (s : ByteArray) (w : World) (hs : s.size ≤ maxLen) :
    Calls Tryz.prog 95 #[val k n s] w fun e w' => e = .returned (.bool (formB k n s.data.toList)) ∧ Below w.heap.size w w' := by
  by_cases h0 : k = 0
  · subst h0; exact form_0 n s w
  by_cases h1 : k = 1
  · subst h1; exact form_1 n s w hs
  by_cases h2 : k = 2
  · subst h2; exact form_2 n s w hs
  exact form_other k n s w h0 h1 h2
end Go.Proofs.YtafenkepigmcaaaGreatDoor.Vl
/- The walks of Check. -/
namespace Go.Proofs.YtafenkepigmcaaaGreatDoor.Vl
open Go Go.RowKit
def chk (k n : Int) (l : List UInt8) : Int := if formB k n l then 0 else 3
theorem chk_yes {k n : Int} {l : List UInt8} (h : formB k n l = true) : chk k n l = 0 := by unfold chk; rw [h]; rfl
theorem chk_no {k n : Int} {l : List UInt8} (h : formB k n l = false) : chk k n l = 3 := by unfold chk; rw [h]; rfl
theorem ret_int {k : IntKind} {a b : Int} (h : a = b) : Ending.returned (.int k a) = .returned (.int k b) := by rw [h]
theorem ne_true {n : Int} (h : ¬ n = 0) : (n != 0) = true := by rw [bne_iff_ne]; exact h
set_option maxHeartbeats 400000 in
theorem check_0 (n : Int) (s : ByteArray) (w : World) :
    Calls Tryz.prog 128 #[val 0 n s] w fun e w' => e = .returned (.int .i64 (chk 0 n s.data.toList)) ∧ Below w.heap.size w w' := by
  by_cases hn : n = 0
  · subst hn
    by_cases he : s.toList = []
    · have fin := chk_yes (k := 0) (n := 0) (l := s.data.toList) (by unfold formB; simp [nil_data he])
      have Fin := Lib.hid fin
      clear fin
      go_enter Tryz.func128, Tryz.ntmps128
      go_wp2
      go_ret
      exact ⟨ret_int Fin.out.symm, box_below _ _⟩
    · have fin := chk_no (k := 0) (n := 0) (l := s.data.toList) (by unfold formB; simp; exact fun h => nnil_data he (by simp [h]))
      have he2 : (!s.toList.isEmpty) = true := by simp [he]
      have Fin := Lib.hid fin
      clear fin
      go_enter Tryz.func128, Tryz.ntmps128
      go_wp2
      go_ret
      exact ⟨ret_int Fin.out.symm, box_below _ _⟩
  · have fin := chk_no (k := 0) (n := n) (l := s.data.toList) (by unfold formB; simp [hn])
    have Fin := Lib.hid fin
    clear fin
    have hn' := ne_true hn
    go_enter Tryz.func128, Tryz.ntmps128
    go_wp2
    go_ret
    exact ⟨ret_int Fin.out.symm, box_below _ _⟩
set_option maxHeartbeats 400000 in
theorem check_1 (n : Int) (s : ByteArray) (w : World) :
    Calls Tryz.prog 128 #[val 1 n s] w fun e w' => e = .returned (.int .i64 (chk 1 n s.data.toList)) ∧ Below w.heap.size w w' := by
  by_cases he : s.toList = []
  · have fin := chk_yes (k := 1) (n := n) (l := s.data.toList) (by unfold formB; simp [nil_data he])
    have Fin := Lib.hid fin
    clear fin
    go_enter Tryz.func128, Tryz.ntmps128
    go_wp2
    go_ret
    exact ⟨ret_int Fin.out.symm, box_below _ _⟩
  · have fin := chk_no (k := 1) (n := n) (l := s.data.toList) (by unfold formB; simp; exact fun h => nnil_data he (by simp [h]))
    have he2 : (!s.toList.isEmpty) = true := by simp [he]
    have Fin := Lib.hid fin
    clear fin
    go_enter Tryz.func128, Tryz.ntmps128
    go_wp2
    go_ret
    exact ⟨ret_int Fin.out.symm, box_below _ _⟩
theorem form_text (s : ByteArray) : formB 2 0 s.data.toList = textB s := by unfold formB textB; simp
set_option maxHeartbeats 400000 in
theorem check_2 (n : Int) (s : ByteArray) (w : World) (hs : s.size ≤ maxLen) :
    Calls Tryz.prog 128 #[val 2 n s] w fun e w' => e = .returned (.int .i64 (chk 2 n s.data.toList)) ∧ Below w.heap.size w w' := by
  by_cases hn : n = 0
  · subst hn
    cases ht : textB s
    · have fin := chk_no ((form_text s).trans ht)
      have Fin := Lib.hid fin
      have Ht := Lib.hid ht
      clear fin ht
      go_enter Tryz.func128, Tryz.ntmps128
      go_wp2_with (go_at_call 160; refine (isText_any _ _ hs).mono ?_; rw [Ht.out]; rintro e w' ⟨rfl, rfl⟩)
      go_ret
      exact ⟨ret_int Fin.out.symm, box_below _ _⟩
    · have fin := chk_yes ((form_text s).trans ht)
      have Fin := Lib.hid fin
      have Ht := Lib.hid ht
      clear fin ht
      go_enter Tryz.func128, Tryz.ntmps128
      go_wp2_with (go_at_call 160; refine (isText_any _ _ hs).mono ?_; rw [Ht.out]; rintro e w' ⟨rfl, rfl⟩)
      go_ret
      exact ⟨ret_int Fin.out.symm, box_below _ _⟩
  · have fin := chk_no (k := 2) (n := n) (l := s.data.toList) (by unfold formB; simp [hn])
    have Fin := Lib.hid fin
    clear fin
    have hn' := ne_true hn
    go_enter Tryz.func128, Tryz.ntmps128
    go_wp2
    go_ret
    exact ⟨ret_int Fin.out.symm, box_below _ _⟩
set_option maxHeartbeats 400000 in
theorem check_other (k n : Int) (s : ByteArray) (w : World) (h0 : k ≠ 0) (h1 : k ≠ 1) (h2 : k ≠ 2) :
    Calls Tryz.prog 128 #[val k n s] w fun e w' => e = .returned (.int .i64 (chk k n s.data.toList)) ∧ Below w.heap.size w w' := by
  have fin := chk_no (k := k) (n := n) (l := s.data.toList) (by unfold formB; simp [h0, h1, h2])
  have Fin := Lib.hid fin
  clear fin
  go_enter Tryz.func128, Tryz.ntmps128
  go_wp2
  go_ret
  exact ⟨ret_int Fin.out.symm, box_below _ _⟩
/-- Check: OK, or ErrForm. -/
theorem check_any (k n : Int) (s : ByteArray) (w : World) (hs : s.size ≤ maxLen) :
    Calls Tryz.prog 128 #[val k n s] w fun e w' => e = .returned (.int .i64 (chk k n s.data.toList)) ∧ Below w.heap.size w w' := by
  by_cases h0 : k = 0
  · subst h0; exact check_0 n s w
  by_cases h1 : k = 1
  · subst h1; exact check_1 n s w
  by_cases h2 : k = 2
  · subst h2; exact check_2 n s w hs
  exact check_other k n s w h0 h1 h2
end Go.Proofs.YtafenkepigmcaaaGreatDoor.Vl
