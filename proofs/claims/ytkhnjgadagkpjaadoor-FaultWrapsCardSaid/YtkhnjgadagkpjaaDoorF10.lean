/- fault: the reference's digits: the decimal numeral. -/
import Derived.Test.YtkhnjgadagkpjaaDoorRows
import Derived.WalkKit
import Derived.Lib.ItoaNum
import Derived.Lib.Strings
import Derived.Lib.Walk
import Derived.Lib.Hide
namespace Go.Proofs.YtkhnjgadagkpjaaDoor.Flt
open Go Go.RowKit
def tens : ByteArray := { data := #[48, 49, 50, 51, 52, 53, 54, 55, 56, 57] }
theorem tens_tab : ∀ d : Fin 10, tens.extract d.val (d.val + 1) = ⟨#[UInt8.ofNat (48 + d.val)]⟩ := by decide +kernel
theorem tens_at (d : Nat) (h : d < 10) : tens.extract d (d + 1) = ⟨#[UInt8.ofNat (48 + d)]⟩ := tens_tab ⟨d, h⟩
theorem slice_at (d : Nat) (h : d < 10) (w : World) : Sem.run Tryd.prog (Instr.slice 9 (Value.string { data := #[48, 49, 50, 51, 52, 53, 54, 55, 56, 57] }) (some (Value.int IntKind.u64 (d : Int))) (some (Value.int IntKind.u64 ((d : Int) + 1))) none) w = .ok (.string ⟨#[UInt8.ofNat (48 + d)]⟩) w := by
  have := run_slice_string (P := Tryd.prog) (w := w) 9 tens .u64 .u64 (d : Int) ((d : Int) + 1) Tryd.underlying9 (by omega) (by omega) (by show (d : Int) + 1 ≤ 10; omega)
  rw [show ((d : Int) + 1).toNat = d + 1 by omega, Int.toNat_natCast, tens_at d h] at this
  exact this
set_option maxRecDepth 100000 in
set_option maxHeartbeats 1000000 in
theorem digits_small (u : Nat) (hu : u < 10) (w : World) : Calls Tryd.prog 43 #[.int .u64 u] w fun e w' => e = .returned (.string ⟨(Lib.decDigits u).toArray⟩) ∧ w = w' := by
  have h1 : (u : Int) % 10 = u := by omega
  have hs := slice_at u hu
  rw [Lib.decDigits, dif_pos hu]
  go_enter Tryd.func43, Tryd.ntmps43
  go_wp2_with fail
  go_ret
  exact ⟨by simp, rfl⟩
theorem digits_len (u : Nat) (hu : u < 18446744073709551616) : (Lib.decDigits u).length ≤ 20 := by
  rw [Lib.decDigits_length]
  by_cases h : u = 0
  · subst h; rw [Lib.nDigits_small (by decide : (0 : Nat) < 10)]; decide
  · have := Lib.numDigits_eq u (by omega) hu
    obtain ⟨h1, h2⟩ := this
    rw [← h1]
    split <;> omega
set_option maxRecDepth 100000 in
set_option maxHeartbeats 2000000 in
theorem digits_any : ∀ (u : Nat), u < 18446744073709551616 → ∀ w : World, Calls Tryd.prog 43 #[.int .u64 u] w fun e w' => e = .returned (.string ⟨(Lib.decDigits u).toArray⟩) ∧ w = w' := by
  intro u
  induction u using Nat.strongRecOn with
  | ind u ih =>
    intro hu w
    by_cases h10 : u < 10
    · exact digits_small u h10 w
    · have hr := Lib.hid (ih (u / 10) (by omega) (by omega) w)
      have hd : u % 10 < 10 := by omega
      have hs := slice_at (u % 10) hd
      have h1 : ((u % 10 : Nat) : Int) = (u : Int) % 10 := by omega
      rw [h1] at hs
      have h2 : ((u / 10 : Nat) : Int) = (u : Int) / 10 := by omega
      rw [h2] at hr
      have hlen := digits_len (u / 10) (by omega)
      have HE : Hid ((⟨(Lib.decDigits u).toArray⟩ : ByteArray) = (⟨(Lib.decDigits (u / 10)).toArray⟩ : ByteArray) ++ (⟨#[UInt8.ofNat (48 + u % 10)]⟩ : ByteArray)) := by
        show _ = _
        rw [Lib.decDigits, dif_neg h10]
        apply ByteArray.ext
        simp
      rw [HE.out]
      have hsz : (⟨(Lib.decDigits (u / 10)).toArray⟩ : ByteArray).size ≤ 20 := by
        show (Lib.decDigits (u / 10)).toArray.size ≤ 20
        simpa using hlen
      clear ih hlen h1 h2
      generalize (⟨(Lib.decDigits (u / 10)).toArray⟩ : ByteArray) = S at *
      have hb : ¬ (u : Int) < 10 := by omega
      have hD : (⟨#[UInt8.ofNat (48 + u % 10)]⟩ : ByteArray).size = 1 := rfl
      generalize (⟨#[UInt8.ofNat (48 + u % 10)]⟩ : ByteArray) = D at *
      go_enter Tryd.func43, Tryd.ntmps43
      go_wp2_with fail
      refine hr.out.mono ?_
      rintro e w1 ⟨rfl, rfl⟩
      go_wp2_with fail
      go_ret
      exact ⟨rfl, rfl⟩
theorem neg_wrap (n : Int) (h0 : -9223372036854775808 ≤ n) (h : n < 0) : IntKind.u64.wrap (-IntKind.u64.wrap n) = (n.natAbs : Int) := by
  simp only [IntKind.wrap, IntKind.bits, IntKind.signed]
  simp
  omega
/-- Dec: the decimal numeral of a number with a sign. -/
theorem dec_any (n : Int) (h0 : -9223372036854775808 ≤ n) (h1 : n ≤ 9223372036854775807) (w : World) : Calls Tryd.prog 29 #[.int .i64 n] w fun e w' => e = .returned (.string ⟨(Lib.itoa n).toArray⟩) ∧ w = w' := by
  by_cases hn : n < 0
  · have H := Lib.hid (digits_any n.natAbs (by omega) w)
    have hlen := digits_len n.natAbs (by omega)
    have HE : Hid ((⟨(Lib.itoa n).toArray⟩ : ByteArray) = (⟨#[45]⟩ : ByteArray) ++ (⟨(Lib.decDigits n.natAbs).toArray⟩ : ByteArray)) := by
      show _ = _
      unfold Lib.itoa
      rw [if_pos hn]
      apply ByteArray.ext
      simp
    rw [HE.out]
    have hsz : (⟨(Lib.decDigits n.natAbs).toArray⟩ : ByteArray).size ≤ 20 := by
      show (Lib.decDigits n.natAbs).toArray.size ≤ 20
      simpa using hlen
    clear hlen
    generalize (⟨(Lib.decDigits n.natAbs).toArray⟩ : ByteArray) = S at *
    go_enter Tryd.func29, Tryd.ntmps29
    go_wp2_with fail
    rw [neg_wrap n h0 hn]
    refine H.out.mono ?_
    rintro e w1 ⟨rfl, rfl⟩
    go_wp2_with fail
    go_ret
    exact ⟨rfl, rfl⟩
  · have H := Lib.hid (digits_any n.toNat (by omega) w)
    unfold Lib.itoa
    rw [if_neg hn]
    rw [show ((n.toNat : Nat) : Int) = n by omega] at H
    generalize (⟨(Lib.decDigits n.toNat).toArray⟩ : ByteArray) = S at *
    go_enter Tryd.func29, Tryd.ntmps29
    go_wp2_with fail
    refine H.out.mono ?_
    rintro e w1 ⟨rfl, rfl⟩
    go_wp2_with fail
    go_ret
    exact ⟨rfl, rfl⟩
end Go.Proofs.YtkhnjgadagkpjaaDoor.Flt
