/- The plain mathematics of the order of values. -/
import Derived.Test.YthmnkbldgpdejaaDoorPlain
namespace Go.Proofs.YthmnkbldgpdejaaDoor.Val
open Go Go.RowKit

def ltB (a b : List UInt8) : Bool := Op.bytesLess a b
theorem ltB_nil_right (a : List UInt8) : ltB a [] = false := by cases a <;> rfl
theorem ltB_nil_cons (b : UInt8) (y : List UInt8) : ltB [] (b :: y) = true := rfl
theorem ltB_cons (a b : UInt8) (x y : List UInt8) : ltB (a :: x) (b :: y) = (decide (a < b) || (a == b && ltB x y)) := rfl
theorem u8_lt (a b : UInt8) : decide (a < b) = decide ((a.toNat : Int) < (b.toNat : Int)) := by
  rw [Bool.eq_iff_iff, decide_eq_true_iff, decide_eq_true_iff, UInt8.lt_iff_toNat_lt]; omega
theorem u8_eq (a b : UInt8) : (a == b) = decide ((a.toNat : Int) = (b.toNat : Int)) := by
  rw [Bool.eq_iff_iff, beq_iff_eq, decide_eq_true_iff, ← UInt8.toNat_inj]; omega
theorem ltB_irrefl : ∀ a : List UInt8, ltB a a = false
  | [] => rfl
  | a :: x => by rw [ltB_cons, u8_lt, ltB_irrefl x]; simp
/-- Of two lists just one of three: the one ahead, the other ahead, alike. -/
theorem ltB_tri : ∀ a b : List UInt8, (ltB a b = true ∧ ltB b a = false ∧ a ≠ b) ∨ (ltB a b = false ∧ ltB b a = true ∧ a ≠ b) ∨ (ltB a b = false ∧ ltB b a = false ∧ a = b)
  | [], [] => .inr (.inr ⟨rfl, rfl, rfl⟩)
  | [], b :: y => .inl ⟨rfl, rfl, by simp⟩
  | a :: x, [] => .inr (.inl ⟨rfl, rfl, by simp⟩)
  | a :: x, b :: y => by
    rw [ltB_cons, ltB_cons, u8_lt, u8_lt, u8_eq, u8_eq]
    by_cases h1 : (a.toNat : Int) < b.toNat
    · refine .inl ⟨by simp [h1], ?_, ?_⟩
      · have : ¬ (b.toNat : Int) < a.toNat := by omega
        have h2 : ¬ (b.toNat : Int) = a.toNat := by omega
        rw [decide_eq_false this, decide_eq_false h2]; rfl
      · intro h; cases h; omega
    · by_cases h2 : (b.toNat : Int) < a.toNat
      · refine .inr (.inl ⟨?_, by simp [h2], ?_⟩)
        · have h3 : ¬ (a.toNat : Int) = b.toNat := by omega
          rw [decide_eq_false h1, decide_eq_false h3]; rfl
        · intro h; cases h; omega
      · have h3 : (a.toNat : Int) = b.toNat := by omega
        have h4 : a = b := UInt8.toNat_inj.1 (by omega)
        rw [decide_eq_false h1, decide_eq_false h2, decide_eq_true h3, decide_eq_true h3.symm]
        subst h4
        rcases ltB_tri x y with ⟨p, q, r⟩ | ⟨p, q, r⟩ | ⟨p, q, r⟩
        · exact .inl ⟨by simp [p], by simp [q], by simpa using r⟩
        · exact .inr (.inl ⟨by simp [p], by simp [q], by simpa using r⟩)
        · exact .inr (.inr ⟨by simp [p], by simp [q], by rw [r]⟩)
theorem ltB_trans : ∀ a b c : List UInt8, ltB a b = true → ltB b c = true → ltB a c = true
  | a, b, [], _, h => by rw [ltB_nil_right] at h; cases h
  | a, [], c :: z, h, _ => by rw [ltB_nil_right] at h; cases h
  | [], b :: y, c :: z, _, _ => rfl
  | a :: x, b :: y, c :: z, h, k => by
    rw [ltB_cons, u8_lt, u8_eq] at h k ⊢
    simp only [Bool.or_eq_true, Bool.and_eq_true, decide_eq_true_iff] at h k ⊢
    rcases h with h | ⟨h, hh⟩ <;> rcases k with k | ⟨k, kk⟩
    · exact .inl (by omega)
    · exact .inl (by omega)
    · exact .inl (by omega)
    · exact .inr ⟨by omega, ltB_trans x y z hh kk⟩
/-- The first byte decides at which two are unlike. -/
theorem ltB_at : ∀ (k : Nat) (a b : List UInt8) (ha : k < a.length) (hb : k < b.length), a.take k = b.take k → a[k] ≠ b[k] → ltB a b = decide (a[k] < b[k])
  | k, [], b, ha, _, _, _ => by simp at ha
  | k, a :: x, [], _, hb, _, _ => by simp at hb
  | 0, a :: x, b :: y, _, _, _, hne => by
    rw [ltB_cons]
    simp only [List.getElem_cons_zero] at hne ⊢
    have : (a == b) = false := by simpa using hne
    rw [this]; simp
  | k + 1, a :: x, b :: y, ha, hb, ht, hne => by
    simp only [List.take_succ_cons, List.cons.injEq] at ht
    simp only [List.length_cons] at ha hb
    rw [ltB_cons, ht.1]
    simp only [List.getElem_cons_succ] at hne ⊢
    rw [ltB_at k x y (by omega) (by omega) ht.2 hne]
    simp
/-- A beginning stands ahead. -/
theorem ltB_short : ∀ (a b : List UInt8), a.take b.length = b.take a.length → ltB a b = decide (a.length < b.length)
  | [], [], _ => rfl
  | [], b :: y, _ => by rw [ltB_nil_cons]; simp
  | a :: x, [], _ => by rw [ltB_nil_right]; simp
  | a :: x, b :: y, h => by
    simp only [List.length_cons, List.take_succ_cons, List.cons.injEq] at h
    rw [ltB_cons, h.1, ltB_short x y h.2]
    simp

def cmpI (a b : Int) : Int := if a < b then -1 else if b < a then 1 else 0
def cmpS (a b : List UInt8) : Int := if ltB a b then -1 else if ltB b a then 1 else 0
def orI (a b c : Int) : Int := if a = 0 then (if b = 0 then c else b) else a
def cmpV (k n : Int) (s : List UInt8) (k' n' : Int) (s' : List UInt8) : Int := orI (cmpI k k') (cmpI n n') (cmpS s s')
def lessV (k n : Int) (s : List UInt8) (k' n' : Int) (s' : List UInt8) : Bool :=
  if k = k' then (if k = 1 then decide (n < n') else ltB s s') else decide (k < k')
theorem form_cases {k n : Int} {s : List UInt8} (h : formB k n s = true) : (k = 0 ∧ n = 0 ∧ s = []) ∨ (k = 1 ∧ s = []) ∨ (k = 2 ∧ n = 0) := by
  rcases of_decide_eq_true h with h | h | h
  · exact .inl h
  · exact .inr (.inl h)
  · exact .inr (.inr ⟨h.1, h.2.1⟩)
theorem cmpS_nil : cmpS [] [] = 0 := rfl
theorem cmpI_self (a : Int) : cmpI a a = 0 := by unfold cmpI; simp
/-- In form the order by parts is the order by kinds. -/
theorem cmpV_less {k n k' n' : Int} {s s' : List UInt8} (h : formB k n s = true) (h' : formB k' n' s' = true) :
    cmpV k n s k' n' s' = if lessV k n s k' n' s' then -1 else if lessV k' n' s' k n s then 1 else 0 := by
  unfold cmpV lessV
  by_cases hk : k = k'
  · subst hk
    rw [if_pos rfl, if_pos rfl, cmpI_self]
    rcases form_cases h with ⟨rfl, rfl, rfl⟩ | ⟨rfl, rfl⟩ | ⟨rfl, rfl⟩ <;> rcases form_cases h' with ⟨h1, h2, h3⟩ | ⟨h1, h2⟩ | ⟨h1, h2⟩ <;> first | omega | skip
    · subst h2; subst h3; rfl
    · subst h2
      simp only [if_pos, orI, cmpS_nil]
      unfold cmpI
      by_cases a : n < n'
      · simp [a]
      · by_cases b : n' < n <;> simp [a, b]
    · subst h2
      rw [cmpI_self]
      simp [orI, cmpS]
  · have hk' : ¬ k' = k := fun e => hk e.symm
    rw [if_neg hk, if_neg hk']
    unfold orI cmpI
    by_cases a : k < k'
    · simp [a]
    · have b : k' < k := by omega
      simp [a, b]
end Go.Proofs.YthmnkbldgpdejaaDoor.Val
