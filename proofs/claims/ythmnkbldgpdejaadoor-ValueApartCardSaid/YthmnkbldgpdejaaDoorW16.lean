/- The walk of ValueApart, of two that differ. -/
import Derived.Test.YthmnkbldgpdejaaDoorW15
namespace Go.Proofs.YthmnkbldgpdejaaDoor.Val
open Go Go.RowKit
set_option maxRecDepth 100000 in
set_option maxHeartbeats 20000000 in
theorem apart_tt (k n k' n' m : Int) (s s' : ByteArray) (w : World) (hs : s.size ≤ maxLen) (htab : Pow w) (hev : ErrV w) (h0 : -9223372036854775808 ≤ n) (h1 : n ≤ 9223372036854775807) (hs' : s'.size ≤ maxLen) (h0' : -9223372036854775808 ≤ n') (h1' : n' ≤ 9223372036854775807)
    (hf : Hid (formB k n s.data.toList = true)) (hf' : Hid (formB k' n' s'.data.toList = true)) (t u : ByteArray) (hu : Hid (wrB k' n' s' = u)) (htu : (t.toList == u.toList) = false) (hd : Diff k n s k' n' s') (ht : Hid (wrB k n s = t)) (htz : t.size ≤ 21) (pk pn pe qk qn qe : Int) (pb qb : ByteArray) (hp : Hid (Other (t ++ oneB m) pk pn pb pe k n s)) (hq : Hid (Other (oneB m ++ t) qk qn qb qe k n s)) :
    Calls Tryd.prog 6 #[val k n s, val k' n' s', .int .u8 m] w fun e w' => e = .returned (.bool true) ∧ Below w.heap.size w w' := by
  have hcv := fun W b => conv_one m W b
  have hz1 : (oneB m).size = 1 := rfl
  generalize oneB m = x at *
  have hl1 : (t ++ x).size ≤ 22 := by rw [ByteArray.size_append]; omega
  have hl2 : (x ++ t).size ≤ 22 := by rw [ByteArray.size_append]; omega
  have hbig : ∀ j : Nat, j ≤ 22 → j ≤ maxLen ∧ j ≤ 281474976710656 := fun j hj => by unfold maxLen; omega
  have HB := Lib.hid hbig
  clear hbig
  go_enter Tryd.func6, Tryd.ntmps6
  go_wp2_with fail
  refine (awake_any _ (Pow.on htab ((box_below w _).alloc (by simp) _))).mono ?_
  rintro e w1 ⟨rfl, hb1⟩
  obtain ⟨hc1, hf1⟩ := bcell hb1
  have z1 := hb1.size
  try simp only [World.size_alloc] at z1
  have hB1 : Below w.heap.size w w1 := ((box_below w _).alloc (by simp) _).trans (hb1.mono (by first | omega | (simp <;> omega)))
  clear hb1
  have y10 : w.heap.size < w1.heap.size := by omega
  have x10 : w.heap.size < w1.heap.size + 1 := by omega
  have y11 : w.heap.size + 1 < w1.heap.size := by omega
  have x11 : w.heap.size + 1 < w1.heap.size + 1 := by omega
  go_wp2_with fail
  refine (write_as t _ _ _ _ hs hf (Pow.on htab hB1) h0 h1 ht).mono ?_
  rintro e w2 ⟨rfl, hb2⟩
  obtain ⟨hc2, hf2⟩ := bcell hb2
  have z2 := hb2.size
  try simp only [World.size_alloc] at z2
  have hB2 : Below w.heap.size w w2 := hB1.trans (hb2.mono (by first | omega | (simp <;> omega)))
  clear hb2
  have y20 : w.heap.size < w2.heap.size := by omega
  have x20 : w.heap.size < w2.heap.size + 1 := by omega
  have y21 : w.heap.size + 1 < w2.heap.size := by omega
  have x21 : w.heap.size + 1 < w2.heap.size + 1 := by omega
  go_wp2_with fail
  refine (write_as u _ _ _ _ hs' hf' (Pow.on htab hB2) h0' h1' hu).mono ?_
  rintro e w3 ⟨rfl, hb3⟩
  obtain ⟨hc3, hf3⟩ := bcell hb3
  have z3 := hb3.size
  try simp only [World.size_alloc] at z3
  have hB3 : Below w.heap.size w w3 := hB2.trans (hb3.mono (by first | omega | (simp <;> omega)))
  clear hb3
  have y30 : w.heap.size < w3.heap.size := by omega
  have x30 : w.heap.size < w3.heap.size + 1 := by omega
  have y31 : w.heap.size + 1 < w3.heap.size := by omega
  have x31 : w.heap.size + 1 < w3.heap.size + 1 := by omega
  go_wp2_with fail
  refine (parse_as hp.out.1 _ (HB.out _ hl1).1 (HB.out _ hl1).2 (Pow.on htab (hB3.alloc (by omega) _)) (ErrV.on hev (hB3.alloc (by omega) _))).mono ?_
  rintro e w4 ⟨rfl, hb4⟩
  obtain ⟨hc4, hf4⟩ := bcell hb4
  have z4 := hb4.size
  try simp only [World.size_alloc] at z4
  have hB4 : Below w.heap.size w w4 := (hB3.alloc (by omega) _).trans (hb4.mono (by first | omega | (simp <;> omega)))
  clear hb4
  have y40 : w.heap.size < w4.heap.size := by omega
  have x40 : w.heap.size < w4.heap.size + 1 := by omega
  have y41 : w.heap.size + 1 < w4.heap.size := by omega
  have x41 : w.heap.size + 1 < w4.heap.size + 1 := by omega
  go_wp2_with fail
  refine (parse_as hq.out.1 _ (HB.out _ hl2).1 (HB.out _ hl2).2 (Pow.on htab ((hB4.alloc (by omega) _).alloc (by simp <;> omega) _)) (ErrV.on hev ((hB4.alloc (by omega) _).alloc (by simp <;> omega) _))).mono ?_
  rintro e w5 ⟨rfl, hb5⟩
  obtain ⟨hc5, hf5⟩ := bcell hb5
  have z5 := hb5.size
  try simp only [World.size_alloc] at z5
  have hB5 : Below w.heap.size w w5 := ((hB4.alloc (by omega) _).alloc (by simp <;> omega) _).trans (hb5.mono (by first | omega | (simp <;> omega)))
  clear hb5
  have y50 : w.heap.size < w5.heap.size := by omega
  have x50 : w.heap.size < w5.heap.size + 1 := by omega
  have y51 : w.heap.size + 1 < w5.heap.size := by omega
  have x51 : w.heap.size + 1 < w5.heap.size + 1 := by omega
  have y52 : w4.heap.size < w5.heap.size := by omega
  have x52 : w4.heap.size < w5.heap.size + 1 := by omega
  have y53 : w4.heap.size + 1 < w5.heap.size := by omega
  have hP := hp.out.2
  have hQ := hq.out.2
  clear hp hq hl1 hl2
  have P1 := Lib.hid hQ
  clear hQ
  unfold Diff at hd
  rcases hd with d | ⟨rfl, d⟩ | ⟨rfl, rfl, d⟩
  all_goals
    unfold Diff at hP
    rcases hP with ⟨rfl, rfl, rfl, rfl⟩ | ⟨rfl, a | ⟨rfl, a⟩ | ⟨rfl, rfl, a⟩⟩
    all_goals
      have hQ := P1.out
      unfold Diff at hQ
      clear P1
      rcases hQ with ⟨rfl, rfl, rfl, rfl⟩ | ⟨rfl, c | ⟨rfl, c⟩ | ⟨rfl, rfl, c⟩⟩
      all_goals
        go_wp2_with fail
        go_ret
        exact ⟨rfl, hB5.alloc (by omega) _⟩
end Go.Proofs.YthmnkbldgpdejaaDoor.Val
