/- The walk of ValueTexts. -/
import Derived.Test.YthmnkbldgpdejaaDoorRound
namespace Go.Proofs.YthmnkbldgpdejaaDoor.Val
open Go Go.RowKit
theorem parse_as {s : ByteArray} {k n : Int} {b : ByteArray} {e : Int} (h : parsed s = (k, n, b, e)) (w : World) (hs : s.size ≤ maxLen) (hlim : s.size ≤ 281474976710656) (htab : Pow w) (hev : ErrV w) :
    Calls Tryd.prog 15 #[.string s] w fun x w' => x = .returned (.tuple #[val k n b, .int .i64 e]) ∧ Below w.heap.size w w' := by
  have := parse_any s w hs hlim htab hev
  rwa [h] at this
theorem docparse_as {s : ByteArray} {k n : Int} {b : ByteArray} {e : Int} (h : parsed s = (k, n, b, e)) (w : World) (hs : s.size ≤ maxLen) :
    Calls Tryd.prog 16 #[.string s] w fun x w' => x = .returned (.tuple #[val k n b, .int .i64 e]) ∧ Below w.heap.size w w' := by
  have := docparse_any s w hs
  rwa [h] at this
theorem write_as (x : ByteArray) (k n : Int) (s : ByteArray) (w : World) (hs : s.size ≤ maxLen) (h : Hid (formB k n s.data.toList = true)) (htab : Pow w) (h0 : -9223372036854775808 ≤ n) (h1 : n ≤ 9223372036854775807) (hx : Hid (wrB k n s = x)) :
    Calls Tryd.prog 13 #[val k n s] w fun e w' => e = .returned (.tuple #[.string x, .int .i64 0]) ∧ Below w.heap.size w w' := by
  rw [← hx.out]; exact write_ok k n s w hs h htab h0 h1
theorem docwrite_as (x : ByteArray) (k n : Int) (s : ByteArray) (w : World) (hs : s.size ≤ maxLen) (h : Hid (formB k n s.data.toList = true)) (h0 : -9223372036854775808 ≤ n) (h1 : n ≤ 9223372036854775807) (hx : Hid (wrB k n s = x)) :
    Calls Tryd.prog 14 #[val k n s] w fun e w' => e = .returned (.tuple #[.string x, .int .i64 0]) ∧ Below w.heap.size w w' := by
  rw [← hx.out]; exact docwrite_ok k n s w hs h h0 h1
set_option maxRecDepth 100000 in
set_option maxHeartbeats 2000000 in
theorem texts_in_ok (k n : Int) (v s : ByteArray) (w : World) (hv : v.size ≤ maxLen) (hs : s.size ≤ maxLen) (hlim : s.size ≤ 281474976710656) (htab : Pow w) (hev : ErrV w) (h0 : -9223372036854775808 ≤ n) (h1 : n ≤ 9223372036854775807)
    (hf : Hid (formB k n v.data.toList = true)) (pk pn : Int) (pb : ByteArray) (hp : Hid (parsed s = (pk, pn, pb, 0))) (hpf : Hid (formB pk pn pb.data.toList = true)) (hpw : Hid (wrB pk pn pb = s)) (hpb : pb.size ≤ maxLen) (hp0 : -9223372036854775808 ≤ pn) (hp1 : pn ≤ 9223372036854775807) (x : ByteArray) (hx : Hid (wrB k n v = x)) (hw : Hid (parsed x = (k, n, v, 0))) (hxm : x.size ≤ maxLen) (hxl : x.size ≤ 281474976710656) :
    Calls Tryd.prog 5 #[val k n v, .string s] w fun e w' => e = .returned (.bool true) ∧ Below w.heap.size w w' := by
  go_enter Tryd.func5, Tryd.ntmps5
  go_wp2_with fail
  refine (awake_any _ (Pow.on htab (box_below w _))).mono ?_
  rintro e w1 ⟨rfl, hb1⟩
  obtain ⟨hc1, hf1⟩ := bcell hb1
  have z1 := hb1.size
  try simp only [World.size_alloc] at z1
  have hB1 : Below w.heap.size w w1 := (box_below w _).trans (hb1.mono (by first | omega | (simp <;> omega)))
  clear hb1
  have y10 : w.heap.size < w1.heap.size := by omega
  have x10 : w.heap.size < w1.heap.size + 1 := by omega
  go_wp2_with fail
  refine (write_as x _ _ _ _ hv hf (Pow.on htab hB1) h0 h1 hx).mono ?_
  rintro e w2 ⟨rfl, hb2⟩
  obtain ⟨hc2, hf2⟩ := bcell hb2
  have z2 := hb2.size
  try simp only [World.size_alloc] at z2
  have hB2 : Below w.heap.size w w2 := hB1.trans (hb2.mono (by first | omega | (simp <;> omega)))
  clear hb2
  have y20 : w.heap.size < w2.heap.size := by omega
  have x20 : w.heap.size < w2.heap.size + 1 := by omega
  go_wp2_with fail
  refine (docwrite_as x _ _ _ _ hv hf h0 h1 hx).mono ?_
  rintro e w3 ⟨rfl, hb3⟩
  obtain ⟨hc3, hf3⟩ := bcell hb3
  have z3 := hb3.size
  try simp only [World.size_alloc] at z3
  have hB3 : Below w.heap.size w w3 := hB2.trans (hb3.mono (by first | omega | (simp <;> omega)))
  clear hb3
  have y30 : w.heap.size < w3.heap.size := by omega
  have x30 : w.heap.size < w3.heap.size + 1 := by omega
  go_wp2_with fail
  refine (parse_as hp.out _ hs hlim (Pow.on htab hB3) (ErrV.on hev hB3)).mono ?_
  rintro e w4 ⟨rfl, hb4⟩
  obtain ⟨hc4, hf4⟩ := bcell hb4
  have z4 := hb4.size
  try simp only [World.size_alloc] at z4
  have hB4 : Below w.heap.size w w4 := hB3.trans (hb4.mono (by first | omega | (simp <;> omega)))
  clear hb4
  have y40 : w.heap.size < w4.heap.size := by omega
  have x40 : w.heap.size < w4.heap.size + 1 := by omega
  go_wp2_with fail
  refine (docparse_as hp.out _ hs).mono ?_
  rintro e w5 ⟨rfl, hb5⟩
  obtain ⟨hc5, hf5⟩ := bcell hb5
  have z5 := hb5.size
  try simp only [World.size_alloc] at z5
  have hB5 : Below w.heap.size w w5 := (hB4.alloc (by omega) _).trans (hb5.mono (by first | omega | (simp <;> omega)))
  clear hb5
  have y50 : w.heap.size < w5.heap.size := by omega
  have x50 : w.heap.size < w5.heap.size + 1 := by omega
  have y51 : w4.heap.size < w5.heap.size := by omega
  have x51 : w4.heap.size < w5.heap.size + 1 := by omega
  go_wp2_with fail
  refine (write_as s _ _ _ _ hpb hpf (Pow.on htab (hB5.alloc (by omega) _)) hp0 hp1 hpw).mono ?_
  rintro e w6 ⟨rfl, hb6⟩
  obtain ⟨hc6, hf6⟩ := bcell hb6
  have z6 := hb6.size
  try simp only [World.size_alloc] at z6
  have hB6 : Below w.heap.size w w6 := (hB5.alloc (by omega) _).trans (hb6.mono (by first | omega | (simp <;> omega)))
  clear hb6
  have y60 : w.heap.size < w6.heap.size := by omega
  have x60 : w.heap.size < w6.heap.size + 1 := by omega
  have y61 : w4.heap.size < w6.heap.size := by omega
  have x61 : w4.heap.size < w6.heap.size + 1 := by omega
  have y62 : w5.heap.size < w6.heap.size := by omega
  have x62 : w5.heap.size < w6.heap.size + 1 := by omega
  go_wp2_with fail
  refine (parse_as hw.out _ hxm hxl (Pow.on htab hB6) (ErrV.on hev hB6)).mono ?_
  rintro e w7 ⟨rfl, hb7⟩
  obtain ⟨hc7, hf7⟩ := bcell hb7
  have z7 := hb7.size
  try simp only [World.size_alloc] at z7
  have hB7 : Below w.heap.size w w7 := hB6.trans (hb7.mono (by first | omega | (simp <;> omega)))
  clear hb7
  have y70 : w.heap.size < w7.heap.size := by omega
  have x70 : w.heap.size < w7.heap.size + 1 := by omega
  have y71 : w4.heap.size < w7.heap.size := by omega
  have x71 : w4.heap.size < w7.heap.size + 1 := by omega
  have y72 : w5.heap.size < w7.heap.size := by omega
  have x72 : w5.heap.size < w7.heap.size + 1 := by omega
  go_wp2_with fail
  go_ret
  exact ⟨rfl, hB7.alloc (by omega) _⟩
set_option maxRecDepth 100000 in
set_option maxHeartbeats 2000000 in
theorem texts_in_err (k n : Int) (v s : ByteArray) (w : World) (hv : v.size ≤ maxLen) (hs : s.size ≤ maxLen) (hlim : s.size ≤ 281474976710656) (htab : Pow w) (hev : ErrV w) (h0 : -9223372036854775808 ≤ n) (h1 : n ≤ 9223372036854775807)
    (hf : Hid (formB k n v.data.toList = true)) (hp : Hid (parsed s = (0, 0, e0, 5))) (x : ByteArray) (hx : Hid (wrB k n v = x)) (hw : Hid (parsed x = (k, n, v, 0))) (hxm : x.size ≤ maxLen) (hxl : x.size ≤ 281474976710656) :
    Calls Tryd.prog 5 #[val k n v, .string s] w fun e w' => e = .returned (.bool true) ∧ Below w.heap.size w w' := by
  go_enter Tryd.func5, Tryd.ntmps5
  go_wp2_with fail
  refine (awake_any _ (Pow.on htab (box_below w _))).mono ?_
  rintro e w1 ⟨rfl, hb1⟩
  obtain ⟨hc1, hf1⟩ := bcell hb1
  have z1 := hb1.size
  try simp only [World.size_alloc] at z1
  have hB1 : Below w.heap.size w w1 := (box_below w _).trans (hb1.mono (by first | omega | (simp <;> omega)))
  clear hb1
  have y10 : w.heap.size < w1.heap.size := by omega
  have x10 : w.heap.size < w1.heap.size + 1 := by omega
  go_wp2_with fail
  refine (write_as x _ _ _ _ hv hf (Pow.on htab hB1) h0 h1 hx).mono ?_
  rintro e w2 ⟨rfl, hb2⟩
  obtain ⟨hc2, hf2⟩ := bcell hb2
  have z2 := hb2.size
  try simp only [World.size_alloc] at z2
  have hB2 : Below w.heap.size w w2 := hB1.trans (hb2.mono (by first | omega | (simp <;> omega)))
  clear hb2
  have y20 : w.heap.size < w2.heap.size := by omega
  have x20 : w.heap.size < w2.heap.size + 1 := by omega
  go_wp2_with fail
  refine (docwrite_as x _ _ _ _ hv hf h0 h1 hx).mono ?_
  rintro e w3 ⟨rfl, hb3⟩
  obtain ⟨hc3, hf3⟩ := bcell hb3
  have z3 := hb3.size
  try simp only [World.size_alloc] at z3
  have hB3 : Below w.heap.size w w3 := hB2.trans (hb3.mono (by first | omega | (simp <;> omega)))
  clear hb3
  have y30 : w.heap.size < w3.heap.size := by omega
  have x30 : w.heap.size < w3.heap.size + 1 := by omega
  go_wp2_with fail
  refine (parse_as hp.out _ hs hlim (Pow.on htab hB3) (ErrV.on hev hB3)).mono ?_
  rintro e w4 ⟨rfl, hb4⟩
  obtain ⟨hc4, hf4⟩ := bcell hb4
  have z4 := hb4.size
  try simp only [World.size_alloc] at z4
  have hB4 : Below w.heap.size w w4 := hB3.trans (hb4.mono (by first | omega | (simp <;> omega)))
  clear hb4
  have y40 : w.heap.size < w4.heap.size := by omega
  have x40 : w.heap.size < w4.heap.size + 1 := by omega
  go_wp2_with fail
  refine (docparse_as hp.out _ hs).mono ?_
  rintro e w5 ⟨rfl, hb5⟩
  obtain ⟨hc5, hf5⟩ := bcell hb5
  have z5 := hb5.size
  try simp only [World.size_alloc] at z5
  have hB5 : Below w.heap.size w w5 := (hB4.alloc (by omega) _).trans (hb5.mono (by first | omega | (simp <;> omega)))
  clear hb5
  have y50 : w.heap.size < w5.heap.size := by omega
  have x50 : w.heap.size < w5.heap.size + 1 := by omega
  have y51 : w4.heap.size < w5.heap.size := by omega
  have x51 : w4.heap.size < w5.heap.size + 1 := by omega
  go_wp2_with fail
  refine (parse_as hw.out _ hxm hxl (Pow.on htab (hB5.alloc (by omega) _)) (ErrV.on hev (hB5.alloc (by omega) _))).mono ?_
  rintro e w7 ⟨rfl, hb7⟩
  obtain ⟨hc7, hf7⟩ := bcell hb7
  have z7 := hb7.size
  try simp only [World.size_alloc] at z7
  have hB7 : Below w.heap.size w w7 := (hB5.alloc (by omega) _).trans (hb7.mono (by first | omega | (simp <;> omega)))
  clear hb7
  have y70 : w.heap.size < w7.heap.size := by omega
  have x70 : w.heap.size < w7.heap.size + 1 := by omega
  have y71 : w4.heap.size < w7.heap.size := by omega
  have x71 : w4.heap.size < w7.heap.size + 1 := by omega
  have y72 : w5.heap.size < w7.heap.size := by omega
  have x72 : w5.heap.size < w7.heap.size + 1 := by omega
  go_wp2_with fail
  go_ret
  exact ⟨rfl, hB7.alloc (by omega) _⟩
set_option maxRecDepth 100000 in
set_option maxHeartbeats 2000000 in
theorem texts_out_ok (k n : Int) (v s : ByteArray) (w : World) (hv : v.size ≤ maxLen) (hs : s.size ≤ maxLen) (hlim : s.size ≤ 281474976710656) (htab : Pow w) (hev : ErrV w) (h0 : -9223372036854775808 ≤ n) (h1 : n ≤ 9223372036854775807)
    (hf : Hid (formB k n v.data.toList = false)) (pk pn : Int) (pb : ByteArray) (hp : Hid (parsed s = (pk, pn, pb, 0))) (hpf : Hid (formB pk pn pb.data.toList = true)) (hpw : Hid (wrB pk pn pb = s)) (hpb : pb.size ≤ maxLen) (hp0 : -9223372036854775808 ≤ pn) (hp1 : pn ≤ 9223372036854775807) :
    Calls Tryd.prog 5 #[val k n v, .string s] w fun e w' => e = .returned (.bool true) ∧ Below w.heap.size w w' := by
  go_enter Tryd.func5, Tryd.ntmps5
  go_wp2_with fail
  refine (awake_any _ (Pow.on htab (box_below w _))).mono ?_
  rintro e w1 ⟨rfl, hb1⟩
  obtain ⟨hc1, hf1⟩ := bcell hb1
  have z1 := hb1.size
  try simp only [World.size_alloc] at z1
  have hB1 : Below w.heap.size w w1 := (box_below w _).trans (hb1.mono (by first | omega | (simp <;> omega)))
  clear hb1
  have y10 : w.heap.size < w1.heap.size := by omega
  have x10 : w.heap.size < w1.heap.size + 1 := by omega
  go_wp2_with fail
  refine (write_bad _ _ _ _ hv hf).mono ?_
  rintro e w2 ⟨rfl, hb2⟩
  obtain ⟨hc2, hf2⟩ := bcell hb2
  have z2 := hb2.size
  try simp only [World.size_alloc] at z2
  have hB2 : Below w.heap.size w w2 := hB1.trans (hb2.mono (by first | omega | (simp <;> omega)))
  clear hb2
  have y20 : w.heap.size < w2.heap.size := by omega
  have x20 : w.heap.size < w2.heap.size + 1 := by omega
  go_wp2_with fail
  refine (docwrite_bad _ _ _ _ hv hf).mono ?_
  rintro e w3 ⟨rfl, hb3⟩
  obtain ⟨hc3, hf3⟩ := bcell hb3
  have z3 := hb3.size
  try simp only [World.size_alloc] at z3
  have hB3 : Below w.heap.size w w3 := hB2.trans (hb3.mono (by first | omega | (simp <;> omega)))
  clear hb3
  have y30 : w.heap.size < w3.heap.size := by omega
  have x30 : w.heap.size < w3.heap.size + 1 := by omega
  go_wp2_with fail
  refine (parse_as hp.out _ hs hlim (Pow.on htab hB3) (ErrV.on hev hB3)).mono ?_
  rintro e w4 ⟨rfl, hb4⟩
  obtain ⟨hc4, hf4⟩ := bcell hb4
  have z4 := hb4.size
  try simp only [World.size_alloc] at z4
  have hB4 : Below w.heap.size w w4 := hB3.trans (hb4.mono (by first | omega | (simp <;> omega)))
  clear hb4
  have y40 : w.heap.size < w4.heap.size := by omega
  have x40 : w.heap.size < w4.heap.size + 1 := by omega
  go_wp2_with fail
  refine (docparse_as hp.out _ hs).mono ?_
  rintro e w5 ⟨rfl, hb5⟩
  obtain ⟨hc5, hf5⟩ := bcell hb5
  have z5 := hb5.size
  try simp only [World.size_alloc] at z5
  have hB5 : Below w.heap.size w w5 := (hB4.alloc (by omega) _).trans (hb5.mono (by first | omega | (simp <;> omega)))
  clear hb5
  have y50 : w.heap.size < w5.heap.size := by omega
  have x50 : w.heap.size < w5.heap.size + 1 := by omega
  have y51 : w4.heap.size < w5.heap.size := by omega
  have x51 : w4.heap.size < w5.heap.size + 1 := by omega
  go_wp2_with fail
  refine (write_as s _ _ _ _ hpb hpf (Pow.on htab (hB5.alloc (by omega) _)) hp0 hp1 hpw).mono ?_
  rintro e w6 ⟨rfl, hb6⟩
  obtain ⟨hc6, hf6⟩ := bcell hb6
  have z6 := hb6.size
  try simp only [World.size_alloc] at z6
  have hB6 : Below w.heap.size w w6 := (hB5.alloc (by omega) _).trans (hb6.mono (by first | omega | (simp <;> omega)))
  clear hb6
  have y60 : w.heap.size < w6.heap.size := by omega
  have x60 : w.heap.size < w6.heap.size + 1 := by omega
  have y61 : w4.heap.size < w6.heap.size := by omega
  have x61 : w4.heap.size < w6.heap.size + 1 := by omega
  have y62 : w5.heap.size < w6.heap.size := by omega
  have x62 : w5.heap.size < w6.heap.size + 1 := by omega
  go_wp2_with fail
  go_ret
  exact ⟨rfl, hB6⟩
set_option maxRecDepth 100000 in
set_option maxHeartbeats 2000000 in
theorem texts_out_err (k n : Int) (v s : ByteArray) (w : World) (hv : v.size ≤ maxLen) (hs : s.size ≤ maxLen) (hlim : s.size ≤ 281474976710656) (htab : Pow w) (hev : ErrV w) (h0 : -9223372036854775808 ≤ n) (h1 : n ≤ 9223372036854775807)
    (hf : Hid (formB k n v.data.toList = false)) (hp : Hid (parsed s = (0, 0, e0, 5))) :
    Calls Tryd.prog 5 #[val k n v, .string s] w fun e w' => e = .returned (.bool true) ∧ Below w.heap.size w w' := by
  go_enter Tryd.func5, Tryd.ntmps5
  go_wp2_with fail
  refine (awake_any _ (Pow.on htab (box_below w _))).mono ?_
  rintro e w1 ⟨rfl, hb1⟩
  obtain ⟨hc1, hf1⟩ := bcell hb1
  have z1 := hb1.size
  try simp only [World.size_alloc] at z1
  have hB1 : Below w.heap.size w w1 := (box_below w _).trans (hb1.mono (by first | omega | (simp <;> omega)))
  clear hb1
  have y10 : w.heap.size < w1.heap.size := by omega
  have x10 : w.heap.size < w1.heap.size + 1 := by omega
  go_wp2_with fail
  refine (write_bad _ _ _ _ hv hf).mono ?_
  rintro e w2 ⟨rfl, hb2⟩
  obtain ⟨hc2, hf2⟩ := bcell hb2
  have z2 := hb2.size
  try simp only [World.size_alloc] at z2
  have hB2 : Below w.heap.size w w2 := hB1.trans (hb2.mono (by first | omega | (simp <;> omega)))
  clear hb2
  have y20 : w.heap.size < w2.heap.size := by omega
  have x20 : w.heap.size < w2.heap.size + 1 := by omega
  go_wp2_with fail
  refine (docwrite_bad _ _ _ _ hv hf).mono ?_
  rintro e w3 ⟨rfl, hb3⟩
  obtain ⟨hc3, hf3⟩ := bcell hb3
  have z3 := hb3.size
  try simp only [World.size_alloc] at z3
  have hB3 : Below w.heap.size w w3 := hB2.trans (hb3.mono (by first | omega | (simp <;> omega)))
  clear hb3
  have y30 : w.heap.size < w3.heap.size := by omega
  have x30 : w.heap.size < w3.heap.size + 1 := by omega
  go_wp2_with fail
  refine (parse_as hp.out _ hs hlim (Pow.on htab hB3) (ErrV.on hev hB3)).mono ?_
  rintro e w4 ⟨rfl, hb4⟩
  obtain ⟨hc4, hf4⟩ := bcell hb4
  have z4 := hb4.size
  try simp only [World.size_alloc] at z4
  have hB4 : Below w.heap.size w w4 := hB3.trans (hb4.mono (by first | omega | (simp <;> omega)))
  clear hb4
  have y40 : w.heap.size < w4.heap.size := by omega
  have x40 : w.heap.size < w4.heap.size + 1 := by omega
  go_wp2_with fail
  refine (docparse_as hp.out _ hs).mono ?_
  rintro e w5 ⟨rfl, hb5⟩
  obtain ⟨hc5, hf5⟩ := bcell hb5
  have z5 := hb5.size
  try simp only [World.size_alloc] at z5
  have hB5 : Below w.heap.size w w5 := (hB4.alloc (by omega) _).trans (hb5.mono (by first | omega | (simp <;> omega)))
  clear hb5
  have y50 : w.heap.size < w5.heap.size := by omega
  have x50 : w.heap.size < w5.heap.size + 1 := by omega
  have y51 : w4.heap.size < w5.heap.size := by omega
  have x51 : w4.heap.size < w5.heap.size + 1 := by omega
  go_wp2_with fail
  go_ret
  exact ⟨rfl, (hB5.alloc (by omega) _)⟩
theorem itoa_size {n : Int} (h0 : -9223372036854775808 ≤ n) (h1 : n ≤ 9223372036854775807) : (⟨(Lib.itoa n).toArray⟩ : ByteArray).size ≤ 21 := by
  show (Lib.itoa n).toArray.size ≤ 21
  rw [List.size_toArray]
  exact Lib.itoa_length_le n h0 h1
theorem wr_size {k n : Int} {s : ByteArray} (h : formB k n s.data.toList = true) (h0 : -9223372036854775808 ≤ n) (h1 : n ≤ 9223372036854775807) : (wrB k n s).size ≤ 21 := by
  rcases form_kind h with ⟨rfl, rfl, rfl⟩ | ⟨rfl, rfl⟩ | ⟨rfl, rfl, h8⟩
  · decide
  · exact itoa_size h0 h1
  · show (q1 ++ s ++ q1).size ≤ 21
    rw [← size_data, data_quo]
    have := size_data s
    simp; omega
/-- ValueTexts: every value, every text. -/
theorem texts (k n : Int) (v s : ByteArray) (w : World) (hv : v.size ≤ maxLen) (hs : s.size ≤ maxLen) (hlim : s.size ≤ 281474976710656) (htab : Pow w) (hev : ErrV w) (h0 : -9223372036854775808 ≤ n) (h1 : n ≤ 9223372036854775807) :
    Calls Tryd.prog 5 #[val k n v, .string s] w fun e w' => e = .returned (.bool true) ∧ Below w.heap.size w w' := by
  obtain ⟨pk, pn, pb, pe, hp⟩ : ∃ pk pn pb pe, parsed s = (pk, pn, pb, pe) := ⟨_, _, _, _, rfl⟩
  have big : ∀ m : Nat, m ≤ 21 → m ≤ maxLen ∧ m ≤ 281474976710656 := fun m hm => by unfold maxLen; omega
  rcases parsed_err s with he | he
  · rw [hp] at he
    obtain rfl : pe = 0 := he
    obtain ⟨a, b, c, d⟩ := parsed_ok hp
    have hpb : pb.size ≤ maxLen := by
      rcases form_kind a with ⟨rfl, rfl, rfl⟩ | ⟨rfl, rfl⟩ | ⟨rfl, rfl, h8⟩
      · exact Nat.zero_le _
      · exact Nat.zero_le _
      · exact (big _ (by omega)).1
    cases hf : formB k n v.data.toList
    · exact texts_out_ok k n v s w hv hs hlim htab hev h0 h1 (Lib.hid hf) pk pn pb (Lib.hid hp) (Lib.hid a) (Lib.hid b) hpb c d
    · have hz := big _ (wr_size hf h0 h1)
      exact texts_in_ok k n v s w hv hs hlim htab hev h0 h1 (Lib.hid hf) pk pn pb (Lib.hid hp) (Lib.hid a) (Lib.hid b) hpb c d _ (Lib.hid rfl) (Lib.hid (parsed_wr hf h0 h1)) hz.1 hz.2
  · cases hf : formB k n v.data.toList
    · exact texts_out_err k n v s w hv hs hlim htab hev h0 h1 (Lib.hid hf) (Lib.hid he)
    · have hz := big _ (wr_size hf h0 h1)
      exact texts_in_err k n v s w hv hs hlim htab hev h0 h1 (Lib.hid hf) (Lib.hid he) _ (Lib.hid rfl) (Lib.hid (parsed_wr hf h0 h1)) hz.1 hz.2
end Go.Proofs.YthmnkbldgpdejaaDoor.Val
