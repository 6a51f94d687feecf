/- The walks of the document's digits, Dec, Write. -/
import Derived.Test.YthmnkbldgpdejaaDoorW6
import Derived.Test.YthmnkbldgpdejaaDoorNum
import Derived.WalkSpells
namespace Go.Proofs.YthmnkbldgpdejaaDoor.Val
open Go Go.RowKit
theorem piece : ∀ r, r < 10 → ByteArray.extract { data := #[48, 49, 50, 51, 52, 53, 54, 55, 56, 57] } r (r + 1) = ⟨#[UInt8.ofNat (48 + r)]⟩ := by decide +kernel
theorem dec_small {u : Nat} (h : u < 10) : ByteArray.extract { data := #[48, 49, 50, 51, 52, 53, 54, 55, 56, 57] } (u % 10) (u % 10 + 1) = ⟨(Lib.decDigits u).toArray⟩ := by
  rw [piece _ (by omega), Lib.decDigits_one h, Nat.mod_eq_of_lt h]
theorem dec_big {u : Nat} (h : ¬ u < 10) : (⟨(Lib.decDigits (u / 10)).toArray⟩ : ByteArray) ++ ByteArray.extract { data := #[48, 49, 50, 51, 52, 53, 54, 55, 56, 57] } (u % 10) (u % 10 + 1) = ⟨(Lib.decDigits u).toArray⟩ := by
  rw [piece _ (by omega)]
  conv => rhs; rw [Lib.decDigits, dif_neg h]
  apply ByteArray.ext
  rw [ByteArray.data_append]
  simp
theorem dec_size {u : Nat} (h : u < 18446744073709551616) : (⟨(Lib.decDigits u).toArray⟩ : ByteArray).size ≤ 20 := by
  show (Lib.decDigits u).toArray.size ≤ 20
  rw [List.size_toArray, Lib.decDigits_length]
  exact Lib.nDigits_le20 u h
theorem ret_str {a b : ByteArray} (h : a = b) : Ending.returned (.string a) = .returned (.string b) := by rw [h]
set_option maxRecDepth 100000 in
set_option maxHeartbeats 400000 in
theorem digits_any (m : Nat) : ∀ (n : Int) (w : World), n.toNat ≤ m → 0 ≤ n → n < 18446744073709551616 →
    Calls Tryd.prog 42 #[.int .u64 n] w fun e w' => e = .returned (.string ⟨(Lib.decDigits n.toNat).toArray⟩) ∧ w = w' := by
  induction m using Nat.strongRecOn with
  | _ m ih =>
    intro n w hm h0 h1
    obtain ⟨u, rfl⟩ : ∃ u : Nat, n = (u : Int) := ⟨n.toNat, by omega⟩
    by_cases h : u < 10
    · have Fin := Lib.hid (dec_small h)
      clear ih
      have h' : (u : Int) < 10 := by omega
      go_enter Tryd.func42, Tryd.ntmps42
      go_wp2_with fail
      go_ret
      exact ⟨ret_str Fin.out, rfl⟩
    · have Fin := Lib.hid (dec_big h)
      have h' : 10 ≤ (u : Int) := by omega
      have IH := Lib.hid (ih (m - 1) (by omega) ((u : Int) / 10) w (by omega) (by omega) (by omega))
      have ht : Hid (((u : Int) / 10).toNat = u / 10) := Lib.hid (by omega)
      have hz := Lib.hid (dec_size (u := u / 10) (by omega))
      have hw : Hid (IntKind.u64.wrap ((u : Int) / 10) = (u : Int) / 10) := Lib.hid (by rw [IntKind.wrap_u64]; omega)
      clear ih h1 h hm
      go_enter Tryd.func42, Tryd.ntmps42
      go_wp2_with fail
      rw [hw.out]
      refine IH.out.mono ?_
      rw [ht.out]
      have hz := hz.out
      generalize (⟨(Lib.decDigits (u / 10)).toArray⟩ : ByteArray) = x at *
      rintro e w1 ⟨rfl, rfl⟩
      go_wp2_with fail
      go_ret
      exact ⟨ret_str Fin.out, rfl⟩
set_option maxHeartbeats 400000 in
theorem dec_neg (n : Int) (w : World) (h : n < 0) (h0 : -9223372036854775808 ≤ n) :
    Calls Tryd.prog 33 #[.int .i64 n] w fun e w' => e = .returned (.string ⟨(Lib.itoa n).toArray⟩) ∧ w = w' := by
  have hw : Hid (IntKind.u64.wrap (-IntKind.u64.wrap n) = -n) := Lib.hid (by rw [IntKind.wrap_u64, IntKind.wrap_u64]; omega)
  go_enter Tryd.func33, Tryd.ntmps33
  go_wp2_with fail
  rw [hw.out]
  refine (digits_any _ _ _ (Nat.le_refl _) (by omega) (by omega)).mono ?_
  have hz := dec_size (u := (-n).toNat) (by omega)
  have Fin : Hid (({ data := #[45] } : ByteArray) ++ ⟨(Lib.decDigits (-n).toNat).toArray⟩ = ⟨(Lib.itoa n).toArray⟩) := Lib.hid (by
    unfold Lib.itoa
    rw [if_pos h, show n.natAbs = (-n).toNat by omega]
    apply ByteArray.ext
    rw [ByteArray.data_append]
    simp)
  generalize (⟨(Lib.decDigits (-n).toNat).toArray⟩ : ByteArray) = x at *
  rintro e w1 ⟨rfl, rfl⟩
  go_wp2_with fail
  go_ret
  exact ⟨ret_str Fin.out, rfl⟩
set_option maxHeartbeats 400000 in
theorem dec_pos (n : Int) (w : World) (h : 0 ≤ n) (h0 : n ≤ 9223372036854775807) :
    Calls Tryd.prog 33 #[.int .i64 n] w fun e w' => e = .returned (.string ⟨(Lib.itoa n).toArray⟩) ∧ w = w' := by
  have hw : Hid (IntKind.u64.wrap n = n) := Lib.hid (by rw [IntKind.wrap_u64]; omega)
  have ht : Hid (Lib.decDigits n.toNat = Lib.itoa n) := Lib.hid (by unfold Lib.itoa; rw [if_neg (by omega)])
  go_enter Tryd.func33, Tryd.ntmps33
  go_wp2_with fail
  try rw [hw.out]
  refine (digits_any _ _ _ (Nat.le_refl _) (by omega) (by omega)).mono ?_
  rw [ht.out]
  rintro e w1 ⟨rfl, rfl⟩
  go_wp2_with fail
  go_ret
  exact ⟨rfl, rfl⟩
end Go.Proofs.YthmnkbldgpdejaaDoor.Val
