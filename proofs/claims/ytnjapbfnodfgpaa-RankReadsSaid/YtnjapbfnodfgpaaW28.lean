/- The walks of front and of the document's ReadUint. -/
import Derived.Test.YtnjapbfnodfgpaaW27
namespace Go.Proofs.Ytnjapbfnodfgpaa.Rk
open Go Go.RowKit
/-- Does the one begin with the other? -/
def fr (l q : List Int) : Bool := decide (q.length ≤ l.length ∧ l.take q.length = q)
set_option maxHeartbeats 1000000 in
theorem front_any (ao bo : Option Addr) (n c m d : Nat) (l q : List Int) (w : World) (hnc : n ≤ c) (_hc : c ≤ maxLen) (hl : l.length = n) (hq : q.length = m) (hqm : q.length ≤ maxLen) (ha : Rd w ao l) (hb : Rd w bo q) :
    Calls Try.prog 32 #[.slice ao n c, .slice bo m d] w fun e w' => e = .returned (.bool (fr l q)) ∧ Below w.heap.size w w' := by
  unfold maxLen at _hc
  unfold fr
  rw [hl, hq]
  by_cases h : m ≤ n
  · have ht : (l.take m).length = m := by rw [List.length_take]; omega
    have HS := Lib.hid (same_says' (x := decide (l.take m = q)) c d ht hq (by rw [ht, ← hq]; exact hqm) (ha.take m) hb rfl)
    have e : decide (m ≤ n ∧ l.take m = q) = decide (l.take m = q) := by simp [h]
    rw [e]
    generalize decide (l.take m = q) = x at *
    clear ht e ha hb hl hq hqm
    go_enter Try.func32, Try.ntmps32
    go_wp2_with fail
    refine HS.out.mono ?_
    rintro e w1 ⟨rfl, hB⟩
    go_wp2_with fail
    go_ret
    exact ⟨rfl, hB⟩
  · have e : decide (m ≤ n ∧ l.take m = q) = false := decide_eq_false (fun h' => h h'.1)
    rw [e]
    clear e
    go_enter Try.func32, Try.ntmps32
    go_wp2_with fail
    go_ret
    exact ⟨rfl, Below.refl _ _⟩
theorem be_val : ∀ (k : Nat) (D : List Int), D.length = k → (∀ x ∈ D, 0 ≤ x ∧ x ≤ 255) → be k (val D).toNat = D
  | 0, D, h, _ => by rw [List.length_eq_zero_iff.1 h]; rfl
  | k + 1, D, h, hb => by
    obtain ⟨E, x, rfl⟩ : ∃ E x, D = E ++ [x] := by
      have hne : D ≠ [] := fun e => by subst e; simp at h
      exact ⟨D.dropLast, D.getLast hne, (List.dropLast_concat_getLast hne).symm⟩
    have hE : E.length = k := by simpa using h
    have hbE : ∀ y ∈ E, 0 ≤ y ∧ y ≤ 255 := fun y hy => hb y (by simp [hy])
    have hx := hb x (by simp)
    have hv := (val_bound E hbE E.length (Nat.le_refl _)).1
    rw [List.take_of_length_le (Nat.le_refl _)] at hv
    rw [val_snoc]
    unfold be
    have e1 : (val E * 256 + x).toNat / 256 = (val E).toNat := by omega
    have e2 : (((val E * 256 + x).toNat % 256 : Nat) : Int) = x := by omega
    rw [e1, e2, be_val k E hE hbE]
theorem val_lt (D : List Int) (h8 : D.length ≤ 8) (hb : ∀ x ∈ D, 0 ≤ x ∧ x ≤ 255) : 0 ≤ val D ∧ (val D).toNat < 256 ^ D.length ∧ val D < 18446744073709551616 := by
  have h := val_bound D hb D.length (Nat.le_refl _)
  rw [List.take_of_length_le (Nat.le_refl _)] at h
  have e : (256 : Int) ^ D.length = ((256 ^ D.length : Nat) : Int) := by rw [Int.natCast_pow]; rfl
  have h2 : 256 ^ D.length ≤ 256 ^ 8 := Nat.pow_le_pow_right (by decide) h8
  have h3 : (256 : Nat) ^ 8 = 18446744073709551616 := by decide
  rw [e] at h
  exact ⟨h.1, by omega, by omega⟩
/-- Bytes that are as few as there must be are the number's. -/
theorem dig_val (D : List Int) (h8 : D.length ≤ 8) (hb : ∀ x ∈ D, 0 ≤ x ∧ x ≤ 255) (h0 : ¬ (0 < D.length ∧ D.getD 0 0 = 0)) : len256 (val D).toNat = D.length ∧ dig (val D).toNat = D := by
  obtain ⟨h1, h2, h3⟩ := val_lt D h8 hb
  have hl := len_le_of (val D).toNat D.length (by omega) h2
  have e : len256 (val D).toNat = D.length := by
    rcases Nat.lt_or_ge (len256 (val D).toNat) D.length with h | h
    · exfalso
      refine h0 ⟨by omega, ?_⟩
      have hv := be_val D.length D rfl hb
      have hg := be_get D.length (val D).toNat 0 (by omega)
      rw [hv] at hg
      rw [hg]
      have hlt := lt_len (val D).toNat (by omega)
      have hle : 256 ^ len256 (val D).toNat ≤ 256 ^ (D.length - 1 - 0) := Nat.pow_le_pow_right (by decide) (by omega)
      rw [Nat.div_eq_of_lt (by omega)]
      rfl
    · omega
  exact ⟨e, by unfold dig; rw [e]; exact be_val _ D rfl hb⟩
/-- What the document's ReadUint answers. -/
def duR : List Int → Option (Int × Int)
  | [] => none
  | x :: l => if 8 < x ∨ (l.length : Int) < x then none else
    if fr (x :: l) (uintC (val (l.take x.toNat)).toNat) then some (val (l.take x.toNat), ((uintC (val (l.take x.toNat)).toNat).length : Int)) else none
theorem duR_eq (l : List Int) (hb : ∀ x ∈ l, 0 ≤ x ∧ x ≤ 255) : duR l = ruR l := by
  cases l with
  | nil => rfl
  | cons x l =>
    have hx := hb x (by simp)
    have hbl : ∀ y ∈ l, 0 ≤ y ∧ y ≤ 255 := fun y hy => hb y (by simp [hy])
    obtain ⟨k, rfl⟩ : ∃ k : Nat, x = k := ⟨x.toNat, by omega⟩
    rw [ruR_cons]
    show (if _ then _ else _) = _
    rw [Int.toNat_natCast]
    by_cases h1 : 8 < k ∨ l.length < k
    · rw [if_pos (show (8 : Int) < k ∨ (l.length : Int) < k by omega)]
      unfold readR
      rw [if_pos (show 8 < k ∨ l.length < k ∨ (0 < k ∧ l.getD 0 0 = 0) by omega)]
      rfl
    · rw [if_neg (show ¬ ((8 : Int) < k ∨ (l.length : Int) < k) by omega)]
      have hlt : (l.take k).length = k := by rw [List.length_take]; omega
      have hbt : ∀ y ∈ l.take k, 0 ≤ y ∧ y ≤ 255 := fun y hy => hbl y (List.mem_of_mem_take hy)
      have hg : 0 < k → (l.take k).getD 0 0 = l.getD 0 0 := by
        intro h
        rw [List.getD_eq_getElem?_getD, List.getD_eq_getElem?_getD, List.getElem?_take, if_pos h]
      unfold readR
      by_cases h0 : 0 < k ∧ l.getD 0 0 = 0
      · rw [if_pos (show 8 < k ∨ l.length < k ∨ (0 < k ∧ l.getD 0 0 = 0) from .inr (.inr h0))]
        have hf : fr ((k : Int) :: l) (uintC (val (l.take k)).toNat) = false := by
          refine decide_eq_false ?_
          rintro ⟨_, h⟩
          unfold uintC at h
          rw [List.length_cons, List.take_succ_cons, List.cons.injEq] at h
          have hk : len256 (val (l.take k)).toNat = k := by omega
          have hfirst := dig_first (val (l.take k)).toNat (by have := (val_lt (l.take k) (by omega) hbt).2.2; have := (val_lt (l.take k) (by omega) hbt).1; omega) (by omega)
          rw [← h.2, dig_length, hk, hg h0.1] at hfirst
          exact hfirst h0.2
        rw [hf]
        rfl
      · rw [if_neg (show ¬ (8 < k ∨ l.length < k ∨ (0 < k ∧ l.getD 0 0 = 0)) by omega)]
        obtain ⟨e1, e2⟩ := dig_val (l.take k) (by omega) hbt (by rw [hlt]; exact fun h => h0 ⟨h.1, by rw [← hg h.1]; exact h.2⟩)
        rw [hlt] at e1
        have hu : uintC (val (l.take k)).toNat = (k : Int) :: l.take k := by unfold uintC; rw [e1, e2]
        have hf : fr ((k : Int) :: l) (uintC (val (l.take k)).toNat) = true := by
          refine decide_eq_true ?_
          rw [hu, List.length_cons, List.length_cons, hlt, List.take_succ_cons]
          exact ⟨by omega, rfl⟩
        rw [hf, hu, if_pos rfl, List.length_cons, hlt]
        simp; omega
end Go.Proofs.Ytnjapbfnodfgpaa.Rk
