/- The walks of Write, awake, ValueOrders. -/
import Derived.Test.YthmnkbldgpdejaaDoorW5
import Derived.Test.YthmnkbldgpdejaaDoorShelf
import Derived.Lib.LaidTab
import Derived.Lib.AppendIntMem
namespace Go.Proofs.YthmnkbldgpdejaaDoor.Val
open Go Go.RowKit
abbrev Pow (w : World) : Prop := Lib.TabIs Tryd.prog w "internal/strconv.uint64pow10" .u64 Lib.pow10Tab
theorem Pow.on {w w1 : World} (h : Pow w) (hb : Below w.heap.size w w1) : Pow w1 := Lib.tabBelow_of_tabIs h w1 hb
set_option maxHeartbeats 400000 in
theorem write_1 (n : Int) (s : ByteArray) (w : World) (hs : s.size ≤ maxLen) (h : Hid (formB 1 n s.data.toList = true)) (htab : Pow w) (h0 : -9223372036854775808 ≤ n) (h1 : n ≤ 9223372036854775807) :
    Calls Tryd.prog 13 #[val 1 n s] w fun e w' => e = .returned (.tuple #[.string ⟨(Lib.itoa n).toArray⟩, .int .i64 0]) ∧ Below w.heap.size w w' := by
  go_enter Tryd.func13, Tryd.ntmps13
  go_wp2_with fail
  refine (check_ok _ _ _ _ (by assumption) (by assumption)).mono ?_
  rintro e w1 ⟨rfl, hb1⟩
  obtain ⟨hc1, hf1⟩ := bcell hb1
  have z1 := hb1.size
  simp only [World.size_alloc] at z1
  have y1 : w.heap.size < w1.heap.size := by omega
  have hB : Below w.heap.size w w1 := (box_below w _).trans (hb1.mono (by simp))
  clear hb1
  go_wp2_with fail
  refine (Tryd.strconv_FormatInt_10 _ h0 h1 _ (Pow.on htab hB)).mono ?_
  rintro e w2 ⟨rfl, kk, os, rfl⟩
  have hB2 := hB.trans (Lib.below_grow w.heap.size w1 hB.size kk os)
  clear hB
  generalize Sort.grow (w1.drewN kk) os = w3 at *
  go_wp2_with fail
  go_ret2
  exact ⟨rfl, hB2⟩
set_option maxHeartbeats 400000 in
theorem write_2 (n : Int) (s : ByteArray) (w : World) (hs : s.size ≤ maxLen) (h : Hid (formB 2 n s.data.toList = true)) :
    Calls Tryd.prog 13 #[val 2 n s] w fun e w' => e = .returned (.tuple #[.string ({ data := #[39] } ++ s ++ { data := #[39] }), .int .i64 0]) ∧ Below w.heap.size w w' := by
  have h8 : s.size ≤ 8 := by
    have h0 := of_decide_eq_true h.out
    rw [show s.data.toList.length = s.size from Array.length_toList] at h0
    omega
  go_enter Tryd.func13, Tryd.ntmps13
  go_wp2_with fail
  refine (check_ok _ _ _ _ (by assumption) (by assumption)).mono ?_
  rintro e w1 ⟨rfl, hb1⟩
  obtain ⟨hc1, hf1⟩ := bcell hb1
  have z1 := hb1.size
  simp only [World.size_alloc] at z1
  have y1 : w.heap.size < w1.heap.size := by omega
  have hB : Below w.heap.size w w1 := (box_below w _).trans (hb1.mono (by simp))
  clear hb1
  go_wp2_with fail
  go_ret2
  exact ⟨rfl, hB⟩
set_option maxHeartbeats 400000 in
theorem write_0 (n : Int) (s : ByteArray) (w : World) (hs : s.size ≤ maxLen) (h : Hid (formB 0 n s.data.toList = true)) :
    Calls Tryd.prog 13 #[val 0 n s] w fun e w' => e = .returned (.tuple #[.string ⟨#[110, 111, 110, 101]⟩, .int .i64 0]) ∧ Below w.heap.size w w' := by
  go_enter Tryd.func13, Tryd.ntmps13
  go_wp2_with fail
  refine (check_ok _ _ _ _ (by assumption) (by assumption)).mono ?_
  rintro e w1 ⟨rfl, hb1⟩
  obtain ⟨hc1, hf1⟩ := bcell hb1
  have z1 := hb1.size
  simp only [World.size_alloc] at z1
  have y1 : w.heap.size < w1.heap.size := by omega
  have hB : Below w.heap.size w w1 := (box_below w _).trans (hb1.mono (by simp))
  clear hb1
  go_wp2_with fail
  go_ret2
  exact ⟨rfl, hB⟩
set_option maxHeartbeats 400000 in
theorem write_bad (k n : Int) (s : ByteArray) (w : World) (hs : s.size ≤ maxLen) (h : Hid (formB k n s.data.toList = false)) :
    Calls Tryd.prog 13 #[val k n s] w fun e w' => e = .returned (.tuple #[.string ⟨#[]⟩, .int .i64 3]) ∧ Below w.heap.size w w' := by
  go_enter Tryd.func13, Tryd.ntmps13
  go_wp2_with fail
  refine (check_bad _ _ _ _ (by assumption) (by assumption)).mono ?_
  rintro e w1 ⟨rfl, hb1⟩
  have hB : Below w.heap.size w w1 := (box_below w _).trans (hb1.mono (by simp))
  clear hb1
  go_wp2_with fail
  go_ret2
  exact ⟨rfl, hB⟩
abbrev e0 : ByteArray := { data := #[] }
abbrev eab : ByteArray := { data := #[97, 46, 98] }
theorem write_m5 (w : World) (htab : Pow w) :
    Calls Tryd.prog 13 #[val 1 (-5) e0] w fun e w' => e = .returned (.tuple #[.string ⟨#[45, 53]⟩, .int .i64 0]) ∧ Below w.heap.size w w' :=
  (write_1 (-5) e0 w (by decide) (Lib.hid (by decide)) htab (by omega) (by omega)).mono fun _ _ ⟨h, k⟩ => ⟨by rw [h, show Lib.itoa (-5) = [45, 53] by decide +kernel], k⟩
theorem write_ab (w : World) :
    Calls Tryd.prog 13 #[val 2 0 eab] w fun e w' => e = .returned (.tuple #[.string ⟨#[39, 97, 46, 98, 39]⟩, .int .i64 0]) ∧ Below w.heap.size w w' :=
  (write_2 0 eab w (by decide) (Lib.hid (by decide))).mono fun _ _ ⟨h, k⟩ => ⟨by rw [h, show ({ data := #[39] } ++ eab ++ { data := #[39] } : ByteArray) = ⟨#[39, 97, 46, 98, 39]⟩ by decide +kernel], k⟩
theorem cmp_lit (w : World) :
    Calls Tryd.prog 8 #[val 1 3 e0, val 2 0 e0] w fun e w' => e = .returned (.tuple #[.int .i64 (-1), .int .i64 0]) ∧ Below w.heap.size w w' :=
  cmp_form 1 3 2 0 e0 e0 w (by decide) (by decide) (Lib.hid (by decide)) (Lib.hid (by decide))
set_option maxHeartbeats 400000 in
theorem awake_any (w : World) (htab : Pow w) :
    Calls Tryd.prog 11 #[] w fun e w' => e = .returned (.bool true) ∧ Below w.heap.size w w' := by
  go_enter Tryd.func11, Tryd.ntmps11
  go_wp2_with fail
  refine (write_m5 _ htab).mono ?_
  rintro e w1 ⟨rfl, hb1⟩
  go_wp2_with fail
  refine (write_ab _).mono ?_
  rintro e w2 ⟨rfl, hb2⟩
  go_wp2_with fail
  refine (cmp_lit _).mono ?_
  rintro e w3 ⟨rfl, hb3⟩
  have hB := hb1.trans ((hb2.trans (hb3.mono hb2.size)).mono hb1.size)
  clear hb1 hb2 hb3
  go_wp2_with fail
  go_ret
  exact ⟨rfl, hB⟩
theorem orders_end (k n k' n' : Int) (s s' : List UInt8) : docR k n s k' n' s' = cmpR k n s k' n' s' := docR_eq k n s k' n' s'
set_option maxHeartbeats 400000 in
theorem orders (k n k' n' : Int) (s s' : ByteArray) (w : World) (hs : s.size ≤ maxLen) (hs' : s'.size ≤ maxLen) (htab : Pow w) :
    Calls Tryd.prog 3 #[val k n s, val k' n' s'] w fun e w' => e = .returned (.bool true) ∧ Below w.heap.size w w' := by
  go_enter Tryd.func3, Tryd.ntmps3
  go_wp2_with fail
  refine (cmp_any _ _ _ _ _ _ _ hs hs').mono ?_
  rintro e w1 ⟨rfl, hb1⟩
  obtain ⟨hc1, hf1⟩ := bcell hb1
  have z1 := hb1.size
  simp only [World.size_alloc] at z1
  have y1 : w.heap.size < w1.heap.size := by omega
  have y2 : w.heap.size + 1 < w1.heap.size := by omega
  have hB : Below w.heap.size w w1 := ((box_below w _).alloc (by simp) _).trans (hb1.mono (by simp; omega))
  clear hb1
  generalize hr : cmpR k n s.data.toList k' n' s'.data.toList = r
  have Hr := Lib.hid hr
  clear hr
  go_wp2_with fail
  refine (doc_any _ _ _ _ _ _ _ hs hs').mono ?_
  rintro e w2 ⟨rfl, hb2⟩
  obtain ⟨hc2, hf2⟩ := bcell hb2
  have z2 := hb2.size
  have y3 : w.heap.size < w2.heap.size := by omega
  have y4 : w.heap.size + 1 < w2.heap.size := by omega
  have hB2 : Below w.heap.size w w2 := hB.trans (hb2.mono (by omega))
  clear hb2 hB
  rw [docR_eq, Hr.out]
  go_wp2_with fail
  refine (check_any _ _ _ _ hs).mono ?_
  rintro e w3 ⟨rfl, hb3⟩
  obtain ⟨hc3, hf3⟩ := bcell hb3
  have z3 := hb3.size
  have y5 : w.heap.size < w3.heap.size := by omega
  have hB3 : Below w.heap.size w w3 := hB2.trans (hb3.mono (by omega))
  clear hb3 hB2
  cases hf : formB k n s.data.toList
  · rw [chk_no hf]
    have Hf := Lib.hid hf
    clear hf
    go_wp2_with fail
    refine (awake_any _ (Pow.on htab hB3)).mono ?_
    rintro e w4 ⟨rfl, hb4⟩
    obtain ⟨hc4, hf4⟩ := bcell hb4
    have z4 := hb4.size
    have y6 : w.heap.size < w4.heap.size := by omega
    have hB4 : Below w.heap.size w w4 := hB3.trans (hb4.mono (by omega))
    clear hb4 hB3
    go_wp2_with fail
    refine (form_ok _ _ _ _ hs _ Hf).mono ?_
    rintro e w5 ⟨rfl, hb5⟩
    have hB5 : Below w.heap.size w w5 := hB4.trans (hb5.mono (by omega))
    clear hb5 hB4
    go_wp2_with fail
    go_ret
    exact ⟨rfl, hB5⟩
  · rw [chk_yes hf]
    have Hf := Lib.hid hf
    clear hf
    go_wp2_with fail
    refine (awake_any _ (Pow.on htab hB3)).mono ?_
    rintro e w4 ⟨rfl, hb4⟩
    obtain ⟨hc4, hf4⟩ := bcell hb4
    have z4 := hb4.size
    have y6 : w.heap.size < w4.heap.size := by omega
    have hB4 : Below w.heap.size w w4 := hB3.trans (hb4.mono (by omega))
    clear hb4 hB3
    go_wp2_with fail
    refine (form_ok _ _ _ _ hs _ Hf).mono ?_
    rintro e w5 ⟨rfl, hb5⟩
    have hB5 : Below w.heap.size w w5 := hB4.trans (hb5.mono (by omega))
    clear hb5 hB4
    go_wp2_with fail
    go_ret
    exact ⟨rfl, hB5⟩
end Go.Proofs.YthmnkbldgpdejaaDoor.Val
