/- The walks of Parse and DocParse. -/
import Derived.Test.YthmnkbldgpdejaaDoorW11
import Derived.Handy
namespace Go.Proofs.YthmnkbldgpdejaaDoor.Val
open Go Go.RowKit
theorem read_as {s : ByteArray} {k n : Int} {b : ByteArray} {ok : Bool} (h : readR s = (k, n, b, ok)) (w : World) (hs : s.size ≤ maxLen) (hlim : s.size ≤ 281474976710656) (htab : Pow w) (hev : ErrV w) :
    Calls Tryd.prog 25 #[.string s] w fun e w' => e = .returned (.tuple #[val k n b, .bool ok]) ∧ Below w.heap.size w w' := by
  have := read_any s w hs hlim htab hev
  unfold ReadPost at this
  rwa [h] at this
theorem inner_size (s : ByteArray) : (inner s).size ≤ s.size := by
  show (s.extract 1 (s.size - 1)).size ≤ s.size
  rw [ByteArray.size_extract]; omega
theorem readR_size {s : ByteArray} {k n : Int} {b : ByteArray} {ok : Bool} (h : readR s = (k, n, b, ok)) : b.size ≤ s.size := by
  unfold readR at h
  split at h
  · cases h; exact Nat.zero_le _
  · split at h
    · cases h; exact inner_size s
    · split at h <;> (cases h; exact Nat.zero_le _)
set_option maxHeartbeats 400000 in
theorem clone_any (s : ByteArray) (w : World) (hlim : s.size ≤ 281474976710656) :
    Calls Tryd.prog 26 #[.string s] w fun e w' => e = .returned (.string s) ∧ Below w.heap.size w w' := by
  go_enter Tryd.func26, Tryd.ntmps26
  go_wp2_with fail
  refine (Tryd.stringslite_Clone _ _ hlim).mono ?_
  rintro e w1 ⟨rfl, hb⟩
  go_wp2_with fail
  go_ret
  exact ⟨rfl, hb⟩
set_option maxHeartbeats 400000 in
theorem parse_no (s : ByteArray) (k n : Int) (b : ByteArray) (h : Hid (readR s = (k, n, b, false))) (w : World) (hs : s.size ≤ maxLen) (hlim : s.size ≤ 281474976710656) (htab : Pow w) (hev : ErrV w) :
    Calls Tryd.prog 15 #[.string s] w fun e w' => e = .returned (.tuple #[val 0 0 e0, .int .i64 5]) ∧ Below w.heap.size w w' := by
  go_enter Tryd.func15, Tryd.ntmps15
  go_wp2_with fail
  refine (read_as h.out _ hs hlim (Pow.on htab (box_below w _)) (ErrV.on hev (box_below w _))).mono ?_
  rintro e w1 ⟨rfl, hb1⟩
  obtain ⟨hc1, hf1⟩ := bcell hb1
  have z1 := hb1.size
  simp only [World.size_alloc] at z1
  have y1 : w.heap.size < w1.heap.size := by omega
  have hB1 : Below w.heap.size w w1 := (box_below w _).trans (hb1.mono (by simp))
  clear hb1
  go_wp2_with fail
  exact bodyPost_ret (v := .tuple #[val 0 0 e0, .int .i64 5]) (by simp [results, Tryd.results15, go_sem, *]) rfl ⟨rfl, by go_grown⟩
set_option maxHeartbeats 400000 in
theorem parse_bad (s : ByteArray) (k n : Int) (b : ByteArray) (h : Hid (readR s = (k, n, b, true))) (hf : Hid (formB k n b.data.toList = false)) (w : World) (hs : s.size ≤ maxLen) (hb : b.size ≤ maxLen) (hlim : s.size ≤ 281474976710656) (htab : Pow w) (hev : ErrV w) :
    Calls Tryd.prog 15 #[.string s] w fun e w' => e = .returned (.tuple #[val 0 0 e0, .int .i64 5]) ∧ Below w.heap.size w w' := by
  go_enter Tryd.func15, Tryd.ntmps15
  go_wp2_with fail
  refine (read_as h.out _ hs hlim (Pow.on htab (box_below w _)) (ErrV.on hev (box_below w _))).mono ?_
  rintro e w1 ⟨rfl, hb1⟩
  obtain ⟨hc1, hf1⟩ := bcell hb1
  have z1 := hb1.size
  simp only [World.size_alloc] at z1
  have y1 : w.heap.size < w1.heap.size := by omega
  have hB1 : Below w.heap.size w w1 := (box_below w _).trans (hb1.mono (by simp))
  clear hb1
  go_wp2_with fail
  refine (check_bad _ _ _ _ hb hf).mono ?_
  rintro e w2 ⟨rfl, hb2⟩
  obtain ⟨hc2, hf2⟩ := bcell hb2
  have z2 := hb2.size
  simp only [World.size_alloc] at z2
  have y2 : w.heap.size < w2.heap.size := by omega
  have y1' : w.heap.size < w1.heap.size + 1 := by omega
  have hB2 : Below w.heap.size w w2 := (hB1.alloc (by omega) _).trans (hb2.mono (by simp; omega))
  clear hb2 hB1
  go_wp2_with fail
  exact bodyPost_ret (v := .tuple #[val 0 0 e0, .int .i64 5]) (by simp [results, Tryd.results15, go_sem, *]) rfl ⟨rfl, by go_grown⟩
set_option maxHeartbeats 400000 in
theorem parse_ok (s : ByteArray) (k n : Int) (b : ByteArray) (h : Hid (readR s = (k, n, b, true))) (hf : Hid (formB k n b.data.toList = true)) (w : World) (hs : s.size ≤ maxLen) (hb : b.size ≤ maxLen) (hblim : b.size ≤ 281474976710656) (hlim : s.size ≤ 281474976710656) (htab : Pow w) (hev : ErrV w) :
    Calls Tryd.prog 15 #[.string s] w fun e w' => e = .returned (.tuple #[val k n b, .int .i64 0]) ∧ Below w.heap.size w w' := by
  go_enter Tryd.func15, Tryd.ntmps15
  go_wp2_with fail
  refine (read_as h.out _ hs hlim (Pow.on htab (box_below w _)) (ErrV.on hev (box_below w _))).mono ?_
  rintro e w1 ⟨rfl, hb1⟩
  obtain ⟨hc1, hf1⟩ := bcell hb1
  have z1 := hb1.size
  simp only [World.size_alloc] at z1
  have y1 : w.heap.size < w1.heap.size := by omega
  have hB1 : Below w.heap.size w w1 := (box_below w _).trans (hb1.mono (by simp))
  clear hb1
  go_wp2_with fail
  refine (check_ok _ _ _ _ hb hf).mono ?_
  rintro e w2 ⟨rfl, hb2⟩
  obtain ⟨hc2, hf2⟩ := bcell hb2
  have z2 := hb2.size
  simp only [World.size_alloc] at z2
  have y2 : w.heap.size < w2.heap.size := by omega
  have y1' : w.heap.size < w1.heap.size + 1 := by omega
  have y3 : w1.heap.size < w2.heap.size := by omega
  have hB2 : Below w.heap.size w w2 := (hB1.alloc (by omega) _).trans (hb2.mono (by simp; omega))
  clear hb2 hB1
  go_wp2_with fail
  refine (clone_any _ _ hblim).mono ?_
  rintro e w3 ⟨rfl, hb3⟩
  obtain ⟨hc3, hf3⟩ := bcell hb3
  have z3 := hb3.size
  have y4 : w.heap.size < w3.heap.size := by omega
  have y5 : w1.heap.size < w3.heap.size := by omega
  have y6 : w.heap.size ≤ w1.heap.size := by omega
  have hB3 : Below w.heap.size w w3 := hB2.trans (hb3.mono (by omega))
  clear hb3 hB2
  go_wp2_with fail
  exact bodyPost_ret (v := .tuple #[val k n b, .int .i64 0]) (by simp [results, Tryd.results15, go_sem, *]) rfl ⟨rfl, by go_grown⟩
/-- What a text is the text of: in form; its error. -/
def parsed (s : ByteArray) : Int × Int × ByteArray × Int :=
  if (readR s).2.2.2 && formB (readR s).1 (readR s).2.1 (readR s).2.2.1.data.toList then ((readR s).1, (readR s).2.1, (readR s).2.2.1, 0) else (0, 0, e0, 5)
theorem parse_any (s : ByteArray) (w : World) (hs : s.size ≤ maxLen) (hlim : s.size ≤ 281474976710656) (htab : Pow w) (hev : ErrV w) :
    Calls Tryd.prog 15 #[.string s] w fun e w' => e = .returned (.tuple #[val (parsed s).1 (parsed s).2.1 (parsed s).2.2.1, .int .i64 (parsed s).2.2.2]) ∧ Below w.heap.size w w' := by
  unfold parsed
  obtain ⟨k, n, b, ok, h⟩ : ∃ k n b ok, readR s = (k, n, b, ok) := ⟨_, _, _, _, rfl⟩
  have hb := readR_size h
  rw [h]
  cases ok
  · exact parse_no s k n b (Lib.hid h) w hs hlim htab hev
  · cases hf : formB k n b.data.toList
    · simp only [hf]
      exact parse_bad s k n b (Lib.hid h) (Lib.hid hf) w hs (by omega) hlim htab hev
    · simp only [hf]
      exact parse_ok s k n b (Lib.hid h) (Lib.hid hf) w hs (by omega) (by omega) hlim htab hev
end Go.Proofs.YthmnkbldgpdejaaDoor.Val
