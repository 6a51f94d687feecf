/- The plain mathematics of codes: bytes of numbers and of texts, their order. -/
import Derived.WalkKit
import Derived.Lib.BitFns
import Derived.Lib.ItoaNum
namespace Go.Proofs.Ytnjapbfnodfgpaa.Rk
open Go Go.RowKit

/-- Byte by byte: does the one stand ahead of the other? -/
def lessL : List Int → List Int → Bool
  | [], [] => false
  | [], _ :: _ => true
  | _ :: _, [] => false
  | a :: as, b :: bs => if a = b then lessL as bs else decide (a < b)

/-- The first place at which they are unlike is within both, and the first's is the lesser. -/
inductive Lt : List Int → List Int → Prop
  | here {x y : Int} (p q : List Int) : x < y → Lt (x :: p) (y :: q)
  | there (x : Int) {p q : List Int} : Lt p q → Lt (x :: p) (x :: q)

theorem less_lt {x y : Int} (h : x < y) (p q : List Int) : lessL (x :: p) (y :: q) = true := by
  rw [lessL, if_neg (by omega), decide_eq_true h]
theorem less_gt {x y : Int} (h : y < x) (p q : List Int) : lessL (x :: p) (y :: q) = false := by
  rw [lessL, if_neg (by omega), decide_eq_false (by omega)]
theorem less_eq (x : Int) (p q : List Int) : lessL (x :: p) (x :: q) = lessL p q := by
  rw [lessL, if_pos rfl]
theorem Lt.less {p q : List Int} (h : Lt p q) : lessL p q = true := by
  induction h with
  | here p q h => exact less_lt h p q
  | there x _ ih => simpa [lessL] using ih
theorem Lt.notless {p q : List Int} (h : Lt p q) : lessL q p = false := by
  induction h with
  | here p q h => exact less_gt h q p
  | there x _ ih => simpa [lessL] using ih
theorem Lt.ne {p q : List Int} (h : Lt p q) : p ≠ q := by
  induction h with
  | here p q h => simp only [ne_eq, List.cons.injEq]; omega
  | there x _ ih => simpa using ih
theorem Lt.app {p q : List Int} (h : Lt p q) (u v : List Int) : Lt (p ++ u) (q ++ v) := by
  induction h with
  | here p q h => exact .here _ _ h
  | there x _ ih => exact .there x ih
theorem Lt.pre (c : List Int) {p q : List Int} (h : Lt p q) : Lt (c ++ p) (c ++ q) := by
  induction c with
  | nil => exact h
  | cons x c ih => exact .there x ih
theorem Lt.mapn {p q : List Int} (h : Lt p q) : Lt (q.map (255 - ·)) (p.map (255 - ·)) := by
  induction h with
  | here p q h => exact .here _ _ (by show (255 : Int) - _ < 255 - _; omega)
  | there x _ ih => exact .there _ ih
theorem lessL_self (p : List Int) : lessL p p = false := by
  induction p with
  | nil => rfl
  | cons a p ih => simpa [lessL] using ih

/-- The k low bytes of n, the highest first. -/
def be : Nat → Nat → List Int
  | 0, _ => []
  | k + 1, n => be k (n / 256) ++ [((n % 256 : Nat) : Int)]
theorem be_length : ∀ k n, (be k n).length = k
  | 0, _ => rfl
  | k + 1, n => by simp [be, be_length k]
theorem be_lt : ∀ (k a b : Nat), b < 256 ^ k → a < b → Lt (be k a) (be k b)
  | 0, a, b, h, hab => by simp at h; omega
  | k + 1, a, b, h, hab => by
    by_cases e : a / 256 = b / 256
    · unfold be
      rw [e]
      exact Lt.pre _ (.here _ _ (by omega))
    · exact (be_lt k (a / 256) (b / 256) (by rw [Nat.pow_succ] at h; omega) (by omega)).app _ _
/-- The byte at place j. -/
theorem be_get : ∀ (k n j : Nat), j < k → (be k n).getD j 0 = ((n / 256 ^ (k - 1 - j) % 256 : Nat) : Int)
  | 0, n, j, h => by omega
  | k + 1, n, j, h => by
    unfold be
    by_cases e : j = k
    · subst e
      simp [List.getD_eq_getElem?_getD, be_length]
    · rw [List.getD_eq_getElem?_getD, List.getElem?_append_left (by rw [be_length]; omega), ← List.getD_eq_getElem?_getD, be_get k (n / 256) j (by omega), Nat.div_div_eq_div_mul, ← Nat.pow_succ']
      have : k - 1 - j + 1 = k + 1 - 1 - j := by omega
      rw [Nat.succ_eq_add_one, this]
theorem be_byte : ∀ (k n : Nat), ∀ x ∈ be k n, 0 ≤ x ∧ x ≤ 255
  | 0, n => by simp [be]
  | k + 1, n => by
    intro x hx
    simp only [be, List.mem_append, List.mem_singleton] at hx
    rcases hx with hx | rfl
    · exact be_byte k _ x hx
    · omega

/-- How many bytes a number has. -/
def len256 (n : Nat) : Nat := (Lib.bitLen n + 7) / 8
theorem len256_le (n : Nat) (h : n < 18446744073709551616) : len256 n ≤ 8 := by
  have := Lib.bitLen_le n 64 (by omega) (by simpa using h)
  unfold len256; omega
theorem lt_len (n : Nat) (h : n < 18446744073709551616) : n < 256 ^ len256 n := by
  by_cases e : n = 0
  · subst e; exact Nat.pow_pos (by decide)
  · obtain ⟨h1, h2, h3⟩ := Lib.bitLenAux_bounds 64 n (by simpa using h) e
    have : 256 ^ len256 n = 2 ^ (8 * len256 n) := by rw [show (256 : Nat) = 2 ^ 8 by decide, ← Nat.pow_mul]
    rw [this]
    refine Nat.lt_of_lt_of_le h3 (Nat.pow_le_pow_right (by decide) ?_)
    unfold len256 Lib.bitLen; omega
theorem len_le_of (n k : Nat) (h : n < 18446744073709551616) (hk : n < 256 ^ k) : len256 n ≤ k := by
  by_cases e : n = 0
  · subst e; simp [len256, Lib.bitLen, Lib.bitLenAux_zero]
  · obtain ⟨h1, h2, h3⟩ := Lib.bitLenAux_bounds 64 n (by simpa using h) e
    have e2 : 256 ^ k = 2 ^ (8 * k) := by rw [show (256 : Nat) = 2 ^ 8 by decide, ← Nat.pow_mul]
    rw [e2] at hk
    have h4 : Lib.bitLenAux 64 n - 1 < 8 * k := (Nat.pow_lt_pow_iff_right (by decide : 1 < 2)).1 (Nat.lt_of_le_of_lt h2 hk)
    unfold len256 Lib.bitLen; omega
theorem len_mono {a b : Nat} (hb : b < 18446744073709551616) (h : a ≤ b) : len256 a ≤ len256 b :=
  len_le_of a _ (by omega) (Nat.lt_of_le_of_lt h (lt_len b hb))

def dig (n : Nat) : List Int := be (len256 n) n
theorem dig_length (n : Nat) : (dig n).length = len256 n := be_length _ _
theorem dig_byte (n : Nat) : ∀ x ∈ dig n, 0 ≤ x ∧ x ≤ 255 := be_byte _ _
/-- The code of a number from 0 on. -/
def uintC (n : Nat) : List Int := (len256 n : Int) :: dig n
/-- The code of a number with a sign. -/
def intC (n : Int) : List Int :=
  if 0 ≤ n then (16 + (len256 n.toNat : Int)) :: dig n.toNat else (15 - (len256 (-1 - n).toNat : Int)) :: (dig (-1 - n).toNat).map (255 - ·)
theorem uintC_lt {a b : Nat} (hb : b < 18446744073709551616) (h : a < b) : Lt (uintC a) (uintC b) := by
  have hl := len_mono hb (Nat.le_of_lt h)
  unfold uintC
  by_cases e : len256 a = len256 b
  · unfold dig
    rw [e]
    exact .there _ (be_lt _ _ _ (lt_len b hb) h)
  · exact .here _ _ (by omega)
theorem intC_lt {a b : Int} (ha : -9223372036854775808 ≤ a) (hb : b ≤ 9223372036854775807) (h : a < b) : Lt (intC a) (intC b) := by
  unfold intC
  by_cases h1 : 0 ≤ a
  · rw [if_pos h1, if_pos (by omega)]
    have hl := len_mono (a := a.toNat) (b := b.toNat) (by omega) (by omega)
    by_cases e : len256 a.toNat = len256 b.toNat
    · unfold dig
      rw [e]
      exact .there _ (be_lt _ _ _ (lt_len b.toNat (by omega)) (by omega))
    · exact .here _ _ (by omega)
  · rw [if_neg h1]
    have l1 := len256_le (-1 - a).toNat (by omega)
    by_cases h2 : 0 ≤ b
    · rw [if_pos h2]
      exact .here _ _ (by omega)
    · rw [if_neg h2]
      have hl := len_mono (a := (-1 - b).toNat) (b := (-1 - a).toNat) (by omega) (by omega)
      by_cases e : len256 (-1 - b).toNat = len256 (-1 - a).toNat
      · unfold dig
        rw [e]
        exact .there _ (Lt.mapn (be_lt _ _ _ (lt_len (-1 - a).toNat (by omega)) (by omega)))
      · exact .here _ _ (by omega)
/-- What a map of codes that is told by an order says. -/
theorem order_of {p q : List Int} {a b : Int} (h1 : a < b → Lt p q) (h2 : b < a → Lt q p) (h3 : a = b → p = q) :
    lessL p q = decide (a < b) ∧ decide (p = q) = decide (a = b) := by
  rcases Int.lt_trichotomy a b with h | h | h
  · rw [(h1 h).less]
    simp [h, (h1 h).ne]; omega
  · have := h3 h
    subst this
    simp [lessL_self, h]
  · rw [(h2 h).notless]
    have n1 : ¬ p = q := fun e => (h2 h).ne e.symm
    exact ⟨(decide_eq_false (by omega)).symm, by rw [decide_eq_false n1, decide_eq_false (by omega)]⟩
theorem uint_order {a b : Nat} (ha : a < 18446744073709551616) (hb : b < 18446744073709551616) :
    lessL (uintC a) (uintC b) = decide ((a : Int) < b) ∧ decide (uintC a = uintC b) = decide ((a : Int) = b) :=
  order_of (fun h => uintC_lt hb (by omega)) (fun h => uintC_lt ha (by omega)) (fun h => by rw [show a = b by omega])
theorem int_order {a b : Int} (ha : -9223372036854775808 ≤ a) (ha' : a ≤ 9223372036854775807) (hb : -9223372036854775808 ≤ b) (hb' : b ≤ 9223372036854775807) :
    lessL (intC a) (intC b) = decide (a < b) ∧ decide (intC a = intC b) = decide (a = b) :=
  order_of (fun h => intC_lt ha hb' h) (fun h => intC_lt hb ha' h) (fun h => by rw [h])

/-- The code of bytes. -/
def esc (l : List Int) : List Int := l.flatMap fun b => if b = 0 then [0, 255] else [b]
def textC (l : List Int) : List Int := esc l ++ [0, 0]
theorem esc_cons (b : Int) (l : List Int) : esc (b :: l) = (if b = 0 then [0, 255] else [b]) ++ esc l := rfl
theorem esc_app (l m : List Int) : esc (l ++ m) = esc l ++ esc m := by unfold esc; rw [List.flatMap_append]
theorem esc_byte (l : List Int) (h : ∀ x ∈ l, 0 ≤ x ∧ x ≤ 255) : ∀ x ∈ esc l, 0 ≤ x ∧ x ≤ 255 := by
  induction l with
  | nil => simp [esc]
  | cons b l ih =>
    intro x hx
    rw [esc_cons, List.mem_append] at hx
    rcases hx with hx | hx
    · by_cases e : b = 0
      · simp [e] at hx; omega
      · simp [e] at hx; subst hx; exact h x (by simp)
    · exact ih (fun y hy => h y (by simp [hy])) x hx
theorem textC_lt : ∀ (a b : List Int), (∀ x ∈ a, 0 ≤ x ∧ x ≤ 255) → (∀ x ∈ b, 0 ≤ x ∧ x ≤ 255) → lessL a b = true → Lt (textC a) (textC b)
  | [], [], _, _, h => by simp [lessL] at h
  | _ :: _, [], _, _, h => by simp [lessL] at h
  | [], y :: b, _, hb, _ => by
    unfold textC
    rw [esc_cons]
    have hy := hb y (by simp)
    by_cases e : y = 0
    · rw [if_pos e]
      exact .there 0 (.here _ _ (by decide))
    · rw [if_neg e]
      exact .here _ _ (by omega)
  | x :: a, y :: b, ha, hb, h => by
    unfold textC
    rw [esc_cons, esc_cons]
    have hx := ha x (by simp)
    have hy := hb y (by simp)
    by_cases e : x = y
    · subst e
      rw [List.append_assoc, List.append_assoc]
      refine Lt.pre _ (textC_lt a b (fun z hz => ha z (by simp [hz])) (fun z hz => hb z (by simp [hz])) ?_)
      simpa [lessL] using h
    · have hlt : x < y := by simpa [lessL, e] using h
      rw [if_neg (by omega : ¬ y = 0)]
      by_cases e0 : x = 0
      · rw [if_pos e0]
        exact .here _ _ (by omega)
      · rw [if_neg e0]
        exact .here _ _ hlt
theorem less_total : ∀ (a b : List Int), a = b ∨ lessL a b = true ∨ lessL b a = true
  | [], [] => .inl rfl
  | [], _ :: _ => .inr (.inl rfl)
  | _ :: _, [] => .inr (.inr rfl)
  | x :: a, y :: b => by
    rcases Int.lt_trichotomy x y with h | h | h
    · exact .inr (.inl (less_lt h a b))
    · subst h
      rcases less_total a b with e | e | e
      · exact .inl (by rw [e])
      · exact .inr (.inl (by simpa [lessL] using e))
      · exact .inr (.inr (by simpa [lessL] using e))
    · exact .inr (.inr (less_lt h b a))
theorem less_asymm : ∀ (a b : List Int), lessL a b = true → lessL b a = false
  | [], [], h => rfl
  | [], _ :: _, _ => rfl
  | _ :: _, [], h => by simp [lessL] at h
  | x :: a, y :: b, h => by
    by_cases e : x = y
    · subst e
      simp only [lessL, if_true] at h ⊢
      exact less_asymm a b h
    · have hlt : x < y := by simpa [lessL, e] using h
      exact less_gt hlt b a
theorem text_order {a b : List Int} (ha : ∀ x ∈ a, 0 ≤ x ∧ x ≤ 255) (hb : ∀ x ∈ b, 0 ≤ x ∧ x ≤ 255) :
    lessL (textC a) (textC b) = lessL a b ∧ decide (textC a = textC b) = decide (a = b) := by
  rcases less_total a b with h | h | h
  · subst h; simp [lessL_self]
  · have k := textC_lt a b ha hb h
    refine ⟨k.less.trans h.symm, ?_⟩
    have : a ≠ b := fun e => by subst e; rw [lessL_self] at h; cases h
    simp [this, k.ne]
  · have k := textC_lt b a hb ha h
    refine ⟨k.notless.trans (less_asymm b a h).symm, ?_⟩
    have : a ≠ b := fun e => by subst e; rw [lessL_self] at h; cases h
    rw [decide_eq_false this, decide_eq_false fun e => k.ne e.symm]
end Go.Proofs.Ytnjapbfnodfgpaa.Rk
