/- The walks of Check. -/
import Derived.Test.YtgjjfodogkcmmaaG2
namespace Go.Proofs.Ytgjjfodogkcmmaa.Vl
open Go Go.RowKit
def chk (k n : Int) (l : List UInt8) : Int := if formB k n l then 0 else 3
theorem chk_yes {k n : Int} {l : List UInt8} (h : formB k n l = true) : chk k n l = 0 := by unfold chk; rw [h]; rfl
theorem chk_no {k n : Int} {l : List UInt8} (h : formB k n l = false) : chk k n l = 3 := by unfold chk; rw [h]; rfl
theorem ret_int {k : IntKind} {a b : Int} (h : a = b) : Ending.returned (.int k a) = .returned (.int k b) := by rw [h]
theorem ne_true {n : Int} (h : ¬ n = 0) : (n != 0) = true := by rw [bne_iff_ne]; exact h
set_option maxHeartbeats 400000 in
theorem check_0 (n : Int) (s : ByteArray) (w : World) :
    Calls Try.prog 82 #[val 0 n s] w fun e w' => e = .returned (.int .i64 (chk 0 n s.data.toList)) ∧ Below w.heap.size w w' := by
  by_cases hn : n = 0
  · subst hn
    by_cases he : s.toList = []
    · have fin := chk_yes (k := 0) (n := 0) (l := s.data.toList) (by unfold formB; simp [nil_data he])
      have Fin := Lib.hid fin
      clear fin
      go_enter Try.func82, Try.ntmps82
      go_wp2
      go_ret
      exact ⟨ret_int Fin.out.symm, box_below _ _⟩
    · have fin := chk_no (k := 0) (n := 0) (l := s.data.toList) (by unfold formB; simp; exact fun h => nnil_data he (by simp [h]))
      have he2 : (!s.toList.isEmpty) = true := by simp [he]
      have Fin := Lib.hid fin
      clear fin
      go_enter Try.func82, Try.ntmps82
      go_wp2
      go_ret
      exact ⟨ret_int Fin.out.symm, box_below _ _⟩
  · have fin := chk_no (k := 0) (n := n) (l := s.data.toList) (by unfold formB; simp [hn])
    have Fin := Lib.hid fin
    clear fin
    have hn' := ne_true hn
    go_enter Try.func82, Try.ntmps82
    go_wp2
    go_ret
    exact ⟨ret_int Fin.out.symm, box_below _ _⟩
set_option maxHeartbeats 400000 in
theorem check_1 (n : Int) (s : ByteArray) (w : World) :
    Calls Try.prog 82 #[val 1 n s] w fun e w' => e = .returned (.int .i64 (chk 1 n s.data.toList)) ∧ Below w.heap.size w w' := by
  by_cases he : s.toList = []
  · have fin := chk_yes (k := 1) (n := n) (l := s.data.toList) (by unfold formB; simp [nil_data he])
    have Fin := Lib.hid fin
    clear fin
    go_enter Try.func82, Try.ntmps82
    go_wp2
    go_ret
    exact ⟨ret_int Fin.out.symm, box_below _ _⟩
  · have fin := chk_no (k := 1) (n := n) (l := s.data.toList) (by unfold formB; simp; exact fun h => nnil_data he (by simp [h]))
    have he2 : (!s.toList.isEmpty) = true := by simp [he]
    have Fin := Lib.hid fin
    clear fin
    go_enter Try.func82, Try.ntmps82
    go_wp2
    go_ret
    exact ⟨ret_int Fin.out.symm, box_below _ _⟩
theorem form_text (s : ByteArray) : formB 2 0 s.data.toList = textB s := by unfold formB textB; simp
set_option maxHeartbeats 400000 in
theorem check_2 (n : Int) (s : ByteArray) (w : World) (hs : s.size ≤ maxLen) :
    Calls Try.prog 82 #[val 2 n s] w fun e w' => e = .returned (.int .i64 (chk 2 n s.data.toList)) ∧ Below w.heap.size w w' := by
  by_cases hn : n = 0
  · subst hn
    cases ht : textB s
    · have fin := chk_no ((form_text s).trans ht)
      have Fin := Lib.hid fin
      have Ht := Lib.hid ht
      clear fin ht
      go_enter Try.func82, Try.ntmps82
      go_wp2_with (go_at_call 85; refine (isText_any _ _ hs).mono ?_; rw [Ht.out]; rintro e w' ⟨rfl, rfl⟩)
      go_ret
      exact ⟨ret_int Fin.out.symm, box_below _ _⟩
    · have fin := chk_yes ((form_text s).trans ht)
      have Fin := Lib.hid fin
      have Ht := Lib.hid ht
      clear fin ht
      go_enter Try.func82, Try.ntmps82
      go_wp2_with (go_at_call 85; refine (isText_any _ _ hs).mono ?_; rw [Ht.out]; rintro e w' ⟨rfl, rfl⟩)
      go_ret
      exact ⟨ret_int Fin.out.symm, box_below _ _⟩
  · have fin := chk_no (k := 2) (n := n) (l := s.data.toList) (by unfold formB; simp [hn])
    have Fin := Lib.hid fin
    clear fin
    have hn' := ne_true hn
    go_enter Try.func82, Try.ntmps82
    go_wp2
    go_ret
    exact ⟨ret_int Fin.out.symm, box_below _ _⟩
set_option maxHeartbeats 400000 in
theorem check_other (k n : Int) (s : ByteArray) (w : World) (h0 : k ≠ 0) (h1 : k ≠ 1) (h2 : k ≠ 2) :
    Calls Try.prog 82 #[val k n s] w fun e w' => e = .returned (.int .i64 (chk k n s.data.toList)) ∧ Below w.heap.size w w' := by
  have fin := chk_no (k := k) (n := n) (l := s.data.toList) (by unfold formB; simp [h0, h1, h2])
  have Fin := Lib.hid fin
  clear fin
  go_enter Try.func82, Try.ntmps82
  go_wp2
  go_ret
  exact ⟨ret_int Fin.out.symm, box_below _ _⟩
/-- Check: OK, or ErrForm. -/
theorem check_any (k n : Int) (s : ByteArray) (w : World) (hs : s.size ≤ maxLen) :
    Calls Try.prog 82 #[val k n s] w fun e w' => e = .returned (.int .i64 (chk k n s.data.toList)) ∧ Below w.heap.size w w' := by
  by_cases h0 : k = 0
  · subst h0; exact check_0 n s w
  by_cases h1 : k = 1
  · subst h1; exact check_1 n s w
  by_cases h2 : k = 2
  · subst h2; exact check_2 n s w hs
  exact check_other k n s w h0 h1 h2
end Go.Proofs.Ytgjjfodogkcmmaa.Vl
