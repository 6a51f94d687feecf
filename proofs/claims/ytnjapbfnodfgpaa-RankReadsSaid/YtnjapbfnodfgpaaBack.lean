/- What is written is read again: the plain mathematics. -/
import Derived.Test.YtnjapbfnodfgpaaW19
import Derived.Test.YtnjapbfnodfgpaaW13
namespace Go.Proofs.Ytnjapbfnodfgpaa.Rk
open Go Go.RowKit
theorem val_be : ∀ (k n : Nat), val (be k n) = ((n % 256 ^ k : Nat) : Int)
  | 0, n => by simp [be, val, Nat.mod_one]
  | k + 1, n => by
    unfold be
    rw [val_snoc, val_be k (n / 256), Nat.pow_succ, Nat.mul_comm (256 ^ k) 256, Nat.mod_mul]
    omega
theorem dig_first (n : Nat) (hn : n < 18446744073709551616) (h : 0 < len256 n) : (dig n).getD 0 0 ≠ 0 := by
  unfold dig
  rw [be_get _ _ _ h]
  have h1 := lt_len n hn
  generalize hk : len256 n = k at *
  obtain ⟨m, rfl⟩ : ∃ m, k = m + 1 := ⟨k - 1, by omega⟩
  have e : m + 1 - 1 - 0 = m := by omega
  rw [e]
  have h2 : ¬ n < 256 ^ m := fun h' => by have := len_le_of n m hn h'; omega
  have h3 : 0 < 256 ^ m := Nat.pow_pos (by decide)
  have h4 : 1 ≤ n / 256 ^ m := (Nat.le_div_iff_mul_le h3).2 (by omega)
  have h5 : n / 256 ^ m < 256 := (Nat.div_lt_iff_lt_mul h3).2 (by rw [Nat.pow_succ] at h1; omega)
  omega
theorem readR_dig (n : Nat) (hn : n < 18446744073709551616) (r : List Int) : readR (dig n ++ r) (len256 n) = some (n : Int) := by
  have hl := dig_length n
  have h8 := len256_le n hn
  unfold readR
  rw [if_neg, List.take_left' hl]
  · unfold dig
    rw [val_be, Nat.mod_eq_of_lt (lt_len n hn)]
  · rintro (h | h | ⟨h, h0⟩)
    · omega
    · rw [List.length_append] at h; omega
    · rw [List.getD_eq_getElem?_getD, List.getElem?_append_left (by omega), ← List.getD_eq_getElem?_getD] at h0
      exact dig_first n hn h h0
theorem ruR_code (n : Nat) (hn : n < 18446744073709551616) (r : List Int) : ruR (uintC n ++ r) = some ((n : Int), ((uintC n).length : Int)) := by
  unfold uintC
  rw [List.cons_append, ruR_cons, readR_dig n hn, List.length_cons, dig_length]
  simp; omega
theorem tn_tn (l : List Int) : tn (tn l) = l := by
  unfold tn
  rw [List.map_map]
  have : ((fun x : Int => 255 - x) ∘ fun x => 255 - x) = id := by funext x; show (255 : Int) - (255 - x) = x; omega
  rw [this, List.map_id]
theorem tn_app (l m : List Int) : tn (l ++ m) = tn l ++ tn m := by unfold tn; rw [List.map_append]
theorem intC_length_pos (m : Nat) : (intC (m : Int)).length = 1 + len256 m := by rw [intC_pos, List.length_cons, dig_length]; omega
theorem intC_length_neg (m : Nat) : (intC (-1 - (m : Int))).length = 1 + len256 m := by rw [intC_neg, List.length_cons, tn_length, dig_length]; omega
theorem riR_code (n : Int) (h0 : -9223372036854775808 ≤ n) (h1 : n ≤ 9223372036854775807) (r : List Int) : riR (intC n ++ r) = some (n, ((intC n).length : Int)) := by
  by_cases h : 0 ≤ n
  · obtain ⟨m, rfl⟩ : ∃ m : Nat, n = m := ⟨n.toNat, by omega⟩
    rw [intC_length_pos, intC_pos, List.cons_append, show (16 + (len256 m : Int)) = ((len256 m + 16 : Nat) : Int) by omega, riR_up, readR_dig m (by omega)]
    simp; omega
  · obtain ⟨m, rfl⟩ : ∃ m : Nat, n = -1 - m := ⟨(-1 - n).toNat, by omega⟩
    have h8 := len256_le m (by omega)
    rw [intC_length_neg, intC_neg, List.cons_append, show (15 - (len256 m : Int)) = ((15 - len256 m : Nat) : Int) by omega, riR_down (15 - len256 m) (len256 m) (by omega),
      List.take_append, tn_app, List.take_of_length_le (by rw [tn_length, dig_length]; omega), tn_tn, readR_dig m (by omega)]
    simp; omega
theorem rt_code (most : Nat) : ∀ (l t : List Int) (i : Nat) (r : List Int), t.length + l.length ≤ most → rt most false t i (esc l ++ ([0, 0] ++ r)) = some (t ++ l, i + (esc l).length + 2)
  | [], t, i, r, h => by simp [esc, rt]
  | x :: l, t, i, r, h => by
    rw [List.length_cons] at h
    rw [esc_cons]
    by_cases hx : x = 0
    · subst hx
      rw [if_pos rfl, List.append_assoc]
      show rt most false t i (0 :: 255 :: (esc l ++ ([0, 0] ++ r))) = _
      rw [rt, if_pos rfl, rt, if_pos rfl, if_neg (by omega), rt_code most l (t ++ [0]) (i + 1 + 1) r (by simp; omega)]
      simp; omega
    · rw [if_neg hx, List.append_assoc]
      show rt most false t i (x :: (esc l ++ ([0, 0] ++ r))) = _
      rw [rt, if_neg hx, if_neg (by omega), rt_code most l (t ++ [x]) (i + 1) r (by simp; omega)]
      simp; omega
theorem rt_text (most : Nat) (l r : List Int) (h : l.length ≤ most) : rt most false [] 0 (textC l ++ r) = some (l, (textC l).length) := by
  unfold textC
  rw [List.append_assoc, rt_code most l [] 0 r (by simpa using h)]
  simp
theorem Lt.notpre {p q : List Int} (h : Lt p q) : p ≠ q.take p.length ∧ q ≠ p.take q.length := by
  induction h with
  | here p q h => constructor <;> (simp only [List.length_cons, List.take_succ_cons, ne_eq, List.cons.injEq]; omega)
  | there x _ ih => exact ⟨by simpa using ih.1, by simpa using ih.2⟩
end Go.Proofs.Ytnjapbfnodfgpaa.Rk
