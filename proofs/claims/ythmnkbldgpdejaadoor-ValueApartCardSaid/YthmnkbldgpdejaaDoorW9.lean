/- The walks of Write and DocWrite, as one. -/
import Derived.Test.YthmnkbldgpdejaaDoorW8
namespace Go.Proofs.YthmnkbldgpdejaaDoor.Val
open Go Go.RowKit
abbrev eno : ByteArray := { data := #[110, 111, 110, 101] }
abbrev q1 : ByteArray := { data := #[39] }
def wrB (k n : Int) (s : ByteArray) : ByteArray := if k = 1 then ⟨(Lib.itoa n).toArray⟩ else if k = 2 then q1 ++ s ++ q1 else eno
theorem dec_any (n : Int) (w : World) (h0 : -9223372036854775808 ≤ n) (h1 : n ≤ 9223372036854775807) :
    Calls Tryd.prog 33 #[.int .i64 n] w fun e w' => e = .returned (.string ⟨(Lib.itoa n).toArray⟩) ∧ w = w' := by
  by_cases h : n < 0
  · exact dec_neg n w h h0
  · exact dec_pos n w (by omega) h1
set_option maxHeartbeats 400000 in
theorem rwrite_1 (n : Int) (s : ByteArray) (w : World) (h0 : -9223372036854775808 ≤ n) (h1 : n ≤ 9223372036854775807) :
    Calls Tryd.prog 24 #[val 1 n s] w fun e w' => e = .returned (.string ⟨(Lib.itoa n).toArray⟩) ∧ Below w.heap.size w w' := by
  go_enter Tryd.func24, Tryd.ntmps24
  go_wp2_with fail
  refine (dec_any _ _ h0 h1).mono ?_
  rintro e w1 ⟨rfl, rfl⟩
  go_wp2_with fail
  go_ret
  exact ⟨rfl, box_below _ _⟩
set_option maxHeartbeats 400000 in
theorem rwrite_2 (n : Int) (s : ByteArray) (w : World) (h : s.size ≤ 8) :
    Calls Tryd.prog 24 #[val 2 n s] w fun e w' => e = .returned (.string (q1 ++ s ++ q1)) ∧ Below w.heap.size w w' := by
  go_enter Tryd.func24, Tryd.ntmps24
  go_wp2_with fail
  go_ret
  exact ⟨rfl, box_below _ _⟩
set_option maxHeartbeats 400000 in
theorem rwrite_0 (n : Int) (s : ByteArray) (w : World) :
    Calls Tryd.prog 24 #[val 0 n s] w fun e w' => e = .returned (.string eno) ∧ Below w.heap.size w w' := by
  go_enter Tryd.func24, Tryd.ntmps24
  go_wp2_with fail
  go_ret
  exact ⟨rfl, box_below _ _⟩
theorem form_kind {k n : Int} {s : ByteArray} (h : formB k n s.data.toList = true) : (k = 0 ∧ n = 0 ∧ s = e0) ∨ (k = 1 ∧ s = e0) ∨ (k = 2 ∧ n = 0 ∧ s.size ≤ 8) := by
  have e : ∀ t : ByteArray, t.data.toList = [] → t = e0 := fun t ht => ByteArray.ext (Array.ext' ht)
  have hl : s.data.toList.length = s.size := Array.length_toList
  rcases of_decide_eq_true h with h | h | h
  · exact .inl ⟨h.1, h.2.1, e _ h.2.2⟩
  · exact .inr (.inl ⟨h.1, e _ h.2⟩)
  · exact .inr (.inr ⟨h.1, h.2.1, by rw [← hl]; exact h.2.2.1⟩)
theorem rwrite_any (k n : Int) (s : ByteArray) (w : World) (h : formB k n s.data.toList = true) (h0 : -9223372036854775808 ≤ n) (h1 : n ≤ 9223372036854775807) :
    Calls Tryd.prog 24 #[val k n s] w fun e w' => e = .returned (.string (wrB k n s)) ∧ Below w.heap.size w w' := by
  rcases form_kind h with ⟨rfl, _, _⟩ | ⟨rfl, _⟩ | ⟨rfl, _, h8⟩
  · exact rwrite_0 n s w
  · exact rwrite_1 n s w h0 h1
  · exact rwrite_2 n s w h8
theorem write_ok (k n : Int) (s : ByteArray) (w : World) (hs : s.size ≤ maxLen) (h : Hid (formB k n s.data.toList = true)) (htab : Pow w) (h0 : -9223372036854775808 ≤ n) (h1 : n ≤ 9223372036854775807) :
    Calls Tryd.prog 13 #[val k n s] w fun e w' => e = .returned (.tuple #[.string (wrB k n s), .int .i64 0]) ∧ Below w.heap.size w w' := by
  rcases form_kind h.out with ⟨rfl, _, _⟩ | ⟨rfl, _⟩ | ⟨rfl, _, h8⟩
  · exact write_0 n s w hs h
  · exact write_1 n s w hs h htab h0 h1
  · exact write_2 n s w hs h
set_option maxHeartbeats 400000 in
theorem docwrite_ok (k n : Int) (s : ByteArray) (w : World) (hs : s.size ≤ maxLen) (h : Hid (formB k n s.data.toList = true)) (h0 : -9223372036854775808 ≤ n) (h1 : n ≤ 9223372036854775807) :
    Calls Tryd.prog 14 #[val k n s] w fun e w' => e = .returned (.tuple #[.string (wrB k n s), .int .i64 0]) ∧ Below w.heap.size w w' := by
  go_enter Tryd.func14, Tryd.ntmps14
  go_wp2_with fail
  refine (form_ok _ _ _ _ hs _ h).mono ?_
  rintro e w1 ⟨rfl, hb1⟩
  obtain ⟨hc1, hf1⟩ := bcell hb1
  have z1 := hb1.size
  simp only [World.size_alloc] at z1
  have y1 : w.heap.size < w1.heap.size := by omega
  have hB : Below w.heap.size w w1 := (box_below w _).trans (hb1.mono (by simp))
  clear hb1
  go_wp2_with fail
  refine (rwrite_any _ _ _ _ h.out h0 h1).mono ?_
  rintro e w2 ⟨rfl, hb2⟩
  have hB2 : Below w.heap.size w w2 := hB.trans (hb2.mono (by omega))
  clear hb2 hB
  go_wp2_with fail
  go_ret2
  exact ⟨rfl, hB2⟩
set_option maxHeartbeats 400000 in
theorem docwrite_bad (k n : Int) (s : ByteArray) (w : World) (hs : s.size ≤ maxLen) (h : Hid (formB k n s.data.toList = false)) :
    Calls Tryd.prog 14 #[val k n s] w fun e w' => e = .returned (.tuple #[.string ⟨#[]⟩, .int .i64 3]) ∧ Below w.heap.size w w' := by
  go_enter Tryd.func14, Tryd.ntmps14
  go_wp2_with fail
  refine (form_ok _ _ _ _ hs _ h).mono ?_
  rintro e w1 ⟨rfl, hb1⟩
  have hB : Below w.heap.size w w1 := (box_below w _).trans (hb1.mono (by simp))
  clear hb1
  go_wp2_with fail
  go_ret2
  exact ⟨rfl, hB⟩
end Go.Proofs.YthmnkbldgpdejaaDoor.Val
