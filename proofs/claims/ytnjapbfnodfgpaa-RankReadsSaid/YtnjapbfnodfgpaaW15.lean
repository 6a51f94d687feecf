/- The law on numbers, walked. -/
import Derived.Test.YtnjapbfnodfgpaaW14
namespace Go.Proofs.Ytnjapbfnodfgpaa.Rk
open Go Go.RowKit
theorem uintC_len (n : Nat) (h : n < 18446744073709551616) : (uintC n).length ≤ 9 := by
  have := len256_le n h
  unfold uintC
  rw [List.length_cons, dig_length]; omega
theorem intC_len (n : Int) (h0 : -9223372036854775808 ≤ n) (h1 : n ≤ 9223372036854775807) : (intC n).length ≤ 9 := by
  unfold intC
  split
  · have := len256_le n.toNat (by omega)
    rw [List.length_cons, dig_length]; omega
  · have := len256_le (-1 - n).toNat (by omega)
    rw [List.length_cons, List.length_map, dig_length]; omega
theorem uint_gives' (n : Int) (h0 : 0 ≤ n) (h1 : n ≤ 18446744073709551615) (w : World) : Gives 11 #[.int .u64 n] (uintC n.toNat) w := by
  have := uint_gives n.toNat (by omega) w
  rwa [show ((n.toNat : Nat) : Int) = n by omega] at this
theorem beq_of (a b : Int) : decide (a = b) = (a == b) := by
  by_cases h : a = b <;> simp [h]
theorem le_max {n k : Nat} (h : n ≤ k) (hk : k ≤ 9223372036854775807) : n ≤ maxLen := by unfold maxLen; omega
/-- Less of two codes, told by what it says. -/
theorem less_says {ao bo : Option Addr} {la lb : List Int} {w : World} {x : Bool} (ca cb : Nat) (hn : la.length ≤ maxLen) (hm : lb.length ≤ maxLen) (ha : Rd w ao la) (hb : Rd w bo lb) (h : lessL la lb = x) :
    Calls Try.prog 26 #[.slice ao la.length ca, .slice bo lb.length cb] w fun e w' => e = .returned (.bool x) ∧ Below w.heap.size w w' := by
  subst h; exact less_any ao bo ca cb la lb w hn hm ha hb
theorem same_says {ao bo : Option Addr} {la lb : List Int} {w : World} {x : Bool} (ca cb : Nat) (hn : la.length ≤ maxLen) (ha : Rd w ao la) (hb : Rd w bo lb) (h : decide (la = lb) = x) :
    Calls Try.prog 14 #[.slice ao la.length ca, .slice bo lb.length cb] w fun e w' => e = .returned (.bool x) ∧ Below w.heap.size w w' := by
  subst h; exact same_any ao bo ca cb la lb w hn ha hb
set_option maxHeartbeats 2000000 in
theorem numbers (a b c d : Int) (w : World) (a0 : 0 ≤ a) (a1 : a ≤ 18446744073709551615) (b0 : 0 ≤ b) (b1 : b ≤ 18446744073709551615)
    (c0 : -9223372036854775808 ≤ c) (c1 : c ≤ 9223372036854775807) (d0 : -9223372036854775808 ≤ d) (d1 : d ≤ 9223372036854775807) :
    Calls Try.prog 5 #[.int .u64 a, .int .u64 b, .int .i64 c, .int .i64 d] w fun e w' => e = .returned (.bool true) ∧ Below w.heap.size w w' := by
  have ou := uint_order (a := a.toNat) (b := b.toNat) (by omega) (by omega)
  rw [show ((a.toNat : Nat) : Int) = a by omega, show ((b.toNat : Nat) : Int) = b by omega, beq_of a b] at ou
  have oi := int_order c0 c1 d0 d1
  rw [beq_of c d] at oi
  have la := uintC_len a.toNat (by omega)
  have lb := uintC_len b.toNat (by omega)
  have lc := intC_len c c0 c1
  have ld := intC_len d d0 d1
  have Ga := uint_gives' a a0 a1
  have Gb := uint_gives' b b0 b1
  have Gc := int_gives c c0 c1
  have Gd := int_gives d d0 d1
  generalize uintC a.toNat = A at *
  generalize uintC b.toNat = B at *
  generalize intC c = C at *
  generalize intC d = D at *
  have Ou := Lib.hid ou
  have Oi := Lib.hid oi
  have La := Lib.hid (le_max la (by decide))
  have Lb := Lib.hid (le_max lb (by decide))
  have Lc := Lib.hid (le_max lc (by decide))
  have Ld := Lib.hid (le_max ld (by decide))
  have HGa := Lib.hid Ga
  have HGb := Lib.hid Gb
  have HGc := Lib.hid Gc
  have HGd := Lib.hid Gd
  clear ou oi la lb lc ld Ga Gb Gc Gd a0 a1 b0 b1 c0 c1 d0 d1
  go_enter Try.func5, Try.ntmps5
  go_wp2_with fail
  refine (HGa.out w).mono ?_
  rintro e w1 ⟨aa, ca, rfl, ⟨_, ra, _⟩, hb1⟩
  go_wp2_with fail
  refine (HGb.out w1).mono ?_
  rintro e w2 ⟨ab, cb, rfl, ⟨_, rb, _⟩, hB2⟩
  have ra2 := ra.on hB2 (Nat.le_refl _)
  have hb2 := hb1.trans (hB2.mono hb1.size)
  clear ra hb1 hB2
  go_wp2_with fail
  refine (HGc.out w2).mono ?_
  rintro e w3 ⟨ac, cc, rfl, ⟨_, rc, _⟩, hB3⟩
  have ra3 := ra2.on hB3 (Nat.le_refl _)
  have rb3 := rb.on hB3 (Nat.le_refl _)
  have hb3 := hb2.trans (hB3.mono hb2.size)
  clear ra2 rb hb2 hB3
  go_wp2_with fail
  refine (HGd.out w3).mono ?_
  rintro e w4 ⟨ad, cd, rfl, ⟨_, rd, _⟩, hB4⟩
  have ra4 := ra3.on hB4 (Nat.le_refl _)
  have rb4 := rb3.on hB4 (Nat.le_refl _)
  have rc4 := rc.on hB4 (Nat.le_refl _)
  have hb4 := hb3.trans (hB4.mono hb3.size)
  clear ra3 rb3 rc hb3 hB4 HGa HGb HGc HGd
  go_wp2_with fail
  refine (awake_any w4).mono ?_
  rintro e w5 ⟨rfl, hB5⟩
  have Ra := Lib.hid (ra4.on hB5 (Nat.le_refl _))
  have Rb := Lib.hid (rb4.on hB5 (Nat.le_refl _))
  have Rc := Lib.hid (rc4.on hB5 (Nat.le_refl _))
  have Rd' := Lib.hid (rd.on hB5 (Nat.le_refl _))
  have hb5 := hb4.trans (hB5.mono hb4.size)
  clear ra4 rb4 rc4 rd hb4 hB5
  have H := Lib.hid (less_says ca cb La.out Lb.out Ra.out Rb.out Ou.out.1)
  go_wp2_with fail
  refine H.out.mono ?_
  clear H
  rintro e w6 ⟨rfl, hB6⟩
  have Ra6 := Lib.hid (Ra.out.on hB6 (Nat.le_refl _))
  have Rb6 := Lib.hid (Rb.out.on hB6 (Nat.le_refl _))
  have Rc6 := Lib.hid (Rc.out.on hB6 (Nat.le_refl _))
  have Rd6 := Lib.hid (Rd'.out.on hB6 (Nat.le_refl _))
  have hb6 := hb5.trans (hB6.mono hb5.size)
  clear Ra Rb Rc Rd' hb5 hB6
  have H := Lib.hid (same_says ca cb La.out Ra6.out Rb6.out Ou.out.2)
  go_wp2_with fail
  refine H.out.mono ?_
  clear H
  rintro e w7 ⟨rfl, hB7⟩
  have Rc7 := Lib.hid (Rc6.out.on hB7 (Nat.le_refl _))
  have Rd7 := Lib.hid (Rd6.out.on hB7 (Nat.le_refl _))
  have hb7 := hb6.trans (hB7.mono hb6.size)
  clear Ra6 Rb6 Rc6 Rd6 hb6 hB7
  have H := Lib.hid (less_says cc cd Lc.out Ld.out Rc7.out Rd7.out Oi.out.1)
  go_wp2_with fail
  refine H.out.mono ?_
  clear H
  rintro e w8 ⟨rfl, hB8⟩
  have Rc8 := Lib.hid (Rc7.out.on hB8 (Nat.le_refl _))
  have Rd8 := Lib.hid (Rd7.out.on hB8 (Nat.le_refl _))
  have hb8 := hb7.trans (hB8.mono hb7.size)
  clear Rc7 Rd7 hb7 hB8
  have H := Lib.hid (same_says cc cd Lc.out Rc8.out Rd8.out Oi.out.2)
  go_wp2_with fail
  refine H.out.mono ?_
  clear H
  rintro e w9 ⟨rfl, hB9⟩
  have hb9 := hb8.trans (hB9.mono hb8.size)
  clear Rc8 Rd8 hb8 hB9
  go_wp2_with fail
  go_ret
  exact ⟨by simp, hb9⟩
end Go.Proofs.Ytnjapbfnodfgpaa.Rk
