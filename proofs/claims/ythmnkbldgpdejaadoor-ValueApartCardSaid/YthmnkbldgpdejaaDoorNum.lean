/- The plain mathematics of numbers' texts. -/
import Derived.WalkKit
import Derived.Lib.ParseIntB
import Derived.Lib.ItoaMem
import Derived.Lib.ItoaLen
namespace Go.Proofs.YthmnkbldgpdejaaDoor.Val
open Go Go.RowKit Go.Lib

def digB (c : UInt8) : Bool := decide (48 ≤ c.toNat ∧ c.toNat ≤ 57)
def dvf (a : Nat) (l : List UInt8) : Nat := l.foldl (fun a c => 10 * a + (c.toNat - 48)) a
def dv (l : List UInt8) : Nat := dvf 0 l
theorem dvf_cons (a : Nat) (c : UInt8) (l : List UInt8) : dvf a (c :: l) = dvf (10 * a + (c.toNat - 48)) l := by unfold dvf; rw [List.foldl_cons]
theorem dvf_snoc (a : Nat) (l : List UInt8) (c : UInt8) : dvf a (l ++ [c]) = 10 * dvf a l + (c.toNat - 48) := by unfold dvf; rw [List.foldl_append, List.foldl_cons, List.foldl_nil]
theorem dv_snoc (l : List UInt8) (c : UInt8) : dv (l ++ [c]) = 10 * dv l + (c.toNat - 48) := dvf_snoc 0 l c
theorem dvf_ge (l : List UInt8) : ∀ a, a ≤ dvf a l := by
  induction l with
  | nil => intro a; exact Nat.le_refl _
  | cons c l ih => intro a; rw [dvf_cons]; have := ih (10 * a + (c.toNat - 48)); omega
/-- Digits without a nought in front. -/
def CanD (r : List UInt8) : Prop := r ≠ [] ∧ r.all digB = true ∧ (r.head? = some 48 → r.length = 1)
theorem dig_of {c : UInt8} (h : digB c = true) : 48 ≤ c.toNat ∧ c.toNat ≤ 57 := of_decide_eq_true h
theorem ofNat_dig {c : UInt8} (h : digB c = true) : UInt8.ofNat (48 + (c.toNat - 48)) = c := by
  have := dig_of h
  rw [show 48 + (c.toNat - 48) = c.toNat by omega]
  exact UInt8.ofNat_toNat
theorem dig_ofNat {d : Nat} (h : d < 10) : (UInt8.ofNat (48 + d)).toNat = 48 + d := by
  rw [UInt8.toNat_ofNat']; omega
theorem snoc_ind {P : List UInt8 → Prop} (h0 : P []) (h1 : ∀ l c, P l → P (l ++ [c])) : ∀ l, P l := by
  intro l
  have : ∀ m : List UInt8, P m.reverse := by
    intro m
    induction m with
    | nil => exact h0
    | cons c m ih => rw [List.reverse_cons]; exact h1 _ _ ih
  have := this l.reverse
  rwa [List.reverse_reverse] at this
theorem dv_pos : ∀ r : List UInt8, r ≠ [] → r.all digB = true → r.head? ≠ some 48 → 1 ≤ dv r := by
  intro r
  induction r using snoc_ind with
  | h0 => intro h; exact absurd rfl h
  | h1 l c ih =>
    intro _ ha hh
    rw [List.all_append, Bool.and_eq_true] at ha
    rw [dv_snoc]
    cases l with
    | nil =>
      have hd := dig_of (by simpa using ha.2)
      have : c.toNat ≠ 48 := fun e => hh (by
        have : c = 48 := UInt8.toNat_inj.1 (by rw [e]; rfl)
        rw [this]; rfl)
      omega
    | cons b l' =>
      have := ih (by simp) ha.1 (by simpa using hh)
      omega
theorem can_dec : ∀ r : List UInt8, CanD r → decDigits (dv r) = r := by
  intro r
  induction r using snoc_ind with
  | h0 => intro h; exact absurd rfl h.1
  | h1 l c ih =>
    intro ⟨_, ha, hh⟩
    rw [List.all_append, Bool.and_eq_true] at ha
    have hc : digB c = true := by simpa using ha.2
    have hd := dig_of hc
    rw [dv_snoc]
    cases l with
    | nil =>
      rw [show dv [] = 0 from rfl, decDigits_one (by omega), Nat.mul_zero, Nat.zero_add, ofNat_dig hc]
      rfl
    | cons b l' =>
      have hne : (b :: l').head? ≠ some 48 := fun e => by
        have := hh (by simpa using e)
        simp at this
      have hp := dv_pos (b :: l') (by simp) ha.1 hne
      have hi := ih ⟨by simp, ha.1, fun e => absurd e hne⟩
      rw [decDigits, dif_neg (by omega), show (10 * dv (b :: l') + (c.toNat - 48)) / 10 = dv (b :: l') by omega, show (10 * dv (b :: l') + (c.toNat - 48)) % 10 = c.toNat - 48 by omega, hi, ofNat_dig hc]
theorem dec_all (u : Nat) : decDigits u ≠ [] ∧ (decDigits u).all digB = true ∧ dv (decDigits u) = u ∧ (1 ≤ u → (decDigits u).head? ≠ some 48) := by
  induction u using Nat.strongRecOn with
  | _ u ih =>
    by_cases h : u < 10
    · rw [decDigits_one h]
      refine ⟨by simp, ?_, ?_, ?_⟩
      · simp only [List.all_cons, List.all_nil, Bool.and_true]
        exact decide_eq_true (by rw [dig_ofNat h]; omega)
      · show 10 * 0 + ((UInt8.ofNat (48 + u)).toNat - 48) = u
        rw [dig_ofNat h]; omega
      · intro h1 e
        simp only [List.head?_cons, Option.some.injEq] at e
        have := congrArg UInt8.toNat e
        rw [dig_ofNat h] at this
        have h48 : (48 : UInt8).toNat = 48 := rfl
        omega
    · obtain ⟨a, b, c, d⟩ := ih (u / 10) (by omega)
      rw [decDigits, dif_neg h]
      refine ⟨by simp, ?_, ?_, ?_⟩
      · rw [List.all_append, b]
        simp only [List.all_cons, List.all_nil, Bool.and_true, Bool.true_and]
        exact decide_eq_true (by rw [dig_ofNat (by omega)]; omega)
      · rw [dv_snoc, c, dig_ofNat (by omega)]; omega
      · intro _ e
        have d1 := d (by omega)
        cases e1 : decDigits (u / 10) with
        | nil => exact a e1
        | cons x y =>
          rw [e1] at e d1
          exact d1 (by simpa using e)
theorem nDigits_le : ∀ (k u : Nat), u < 10 ^ (k + 1) → nDigits u ≤ k + 1
  | 0, u, h => by rw [nDigits_small (by simpa using h)]; omega
  | k + 1, u, h => by
    by_cases h1 : u < 10
    · rw [nDigits_small h1]; omega
    · rw [nDigits_big h1]
      have := nDigits_le k (u / 10) (by rw [Nat.pow_succ] at h; omega)
      omega
theorem dec_len {u : Nat} (h : u ≤ 9223372036854775808) : (decDigits u).length ≤ 19 := by
  rw [decDigits_length]
  exact nDigits_le 18 u (by omega)
theorem dec_can (u : Nat) : CanD (decDigits u) := by
  obtain ⟨a, b, _, d⟩ := dec_all u
  refine ⟨a, b, fun e => ?_⟩
  by_cases h : 1 ≤ u
  · exact absurd e (d h)
  · rw [decDigits_one (by omega)]; rfl

/-- What a number's text is, by the document. -/
def numM (minus : Bool) (r : List UInt8) : Option Int :=
  if r.length < 1 ∨ 19 < r.length ∨ (r.head? = some 48 ∧ (1 < r.length ∨ minus = true)) ∨ r.all digB = false then none
  else if minus then (if dv r ≤ 9223372036854775808 then some (-(dv r : Int)) else none) else (if dv r < 9223372036854775808 then some (dv r : Int) else none)
def numB (l : List UInt8) : Option Int := if l.head? = some 45 then numM true (l.drop 1) else numM false l

theorem uintM_ok : ∀ (l : List UInt8) (acc : Nat), l.all digB = true → dvf acc l ≤ 9223372036854775808 → parseUintM (2 ^ 64 - 1) acc l = .ok (dvf acc l)
  | [], acc, _, _ => rfl
  | c :: l, acc, ha, hl => by
    rw [List.all_cons, Bool.and_eq_true] at ha
    have hd := dig_of ha.1
    rw [dvf_cons] at hl ⊢
    have hg := dvf_ge l (10 * acc + (c.toNat - 48))
    unfold parseUintM
    rw [if_pos hd, if_neg (by omega), if_neg (by omega), show acc * 10 + (c.toNat - 48) = 10 * acc + (c.toNat - 48) by omega]
    exact uintM_ok l _ ha.2 hl
theorem uintB_ok {u : Nat} (h : u ≤ 9223372036854775808) : parseUintB 64 (decDigits u) = .ok u := by
  obtain ⟨a, b, c, _⟩ := dec_all u
  unfold parseUintB
  rw [if_neg a, uintM_ok _ _ b (by show dv _ ≤ _; rw [c]; exact h)]
  exact congrArg _ c
theorem intB_pos {u : Nat} (h : u < 9223372036854775808) : parseIntB 64 (decDigits u) = .ok (u : Int) := by
  have hu := uintB_ok (u := u) (by omega)
  obtain ⟨a, b, _, _⟩ := dec_all u
  cases e : decDigits u with
  | nil => exact absurd e a
  | cons c r =>
    rw [e] at hu b
    rw [List.all_cons, Bool.and_eq_true] at b
    have hd := dig_of b.1
    unfold parseIntB
    have h0 : ¬ (c.toNat = 43 ∨ c.toNat = 45) := by omega
    have h1 : ¬ c.toNat = 45 := by omega
    simp only [if_neg h0, hu]
    simp [h1]
    omega
theorem intB_neg {u : Nat} (h : u ≤ 9223372036854775808) : parseIntB 64 (45 :: decDigits u) = .ok (-(u : Int)) := by
  have hu := uintB_ok h
  unfold parseIntB
  simp only [show (45 : UInt8).toNat = 45 from rfl, or_true, if_true, hu]
  simp
  omega
theorem intB_itoa {n : Int} (h0 : -9223372036854775808 ≤ n) (h1 : n ≤ 9223372036854775807) : parseIntB 64 (itoa n) = .ok n := by
  by_cases h : n < 0
  · obtain ⟨u, rfl⟩ : ∃ u : Nat, n = -(u : Int) := ⟨n.natAbs, by omega⟩
    rw [itoa_neg u (by omega), intB_neg (by omega)]
  · obtain ⟨u, rfl⟩ : ∃ u : Nat, n = (u : Int) := ⟨n.toNat, by omega⟩
    rw [itoa_nonneg, intB_pos (by omega)]
theorem numM_some {minus : Bool} {r : List UInt8} {n : Int} (h : numM minus r = some n) :
    CanD r ∧ (minus = true → r.head? ≠ some 48) ∧ n = (if minus then -(dv r : Int) else (dv r : Int)) ∧ -9223372036854775808 ≤ n ∧ n ≤ 9223372036854775807 := by
  unfold numM at h
  split at h
  · cases h
  · rename_i hc
    have c1 : ¬ r.length < 1 := fun e => hc (.inl e)
    have c3 : ¬ (r.head? = some 48 ∧ (1 < r.length ∨ minus = true)) := fun e => hc (.inr (.inr (.inl e)))
    have c4 : r.all digB = true := by
      cases e : r.all digB
      · exact absurd (.inr (.inr (.inr e))) hc
      · rfl
    refine ⟨⟨fun e => c1 (by rw [e]; decide), c4, fun e => ?_⟩, fun e f => c3 ⟨f, .inr e⟩, ?_⟩
    · have : ¬ 1 < r.length := fun g => c3 ⟨e, .inl g⟩
      omega
    · cases minus
      · simp only [Bool.false_eq_true, if_false] at h ⊢
        split at h
        · cases h; refine ⟨rfl, ?_, ?_⟩ <;> omega
        · cases h
      · simp only [if_true] at h ⊢
        split at h
        · cases h; refine ⟨rfl, ?_, ?_⟩ <;> omega
        · cases h
/-- A number's text is that number's digits. -/
theorem num_itoa {l : List UInt8} {n : Int} (h : numB l = some n) : itoa n = l ∧ -9223372036854775808 ≤ n ∧ n ≤ 9223372036854775807 := by
  unfold numB at h
  split at h
  · rename_i hh
    obtain ⟨c, hm, e, a, b⟩ := numM_some h
    simp only [if_true] at e
    have hp := dv_pos _ c.1 c.2.1 (hm rfl)
    refine ⟨?_, a, b⟩
    rw [e, itoa_neg _ hp, can_dec _ c]
    cases l with
    | nil => cases hh
    | cons x r => simp only [List.head?_cons, Option.some.injEq] at hh; rw [hh]; rfl
  · obtain ⟨c, _, e, a, b⟩ := numM_some h
    simp only [Bool.false_eq_true, if_false] at e
    refine ⟨?_, a, b⟩
    rw [e, itoa_nonneg, can_dec _ c]
theorem dec_head (u : Nat) : (decDigits u).head? ≠ some 45 := by
  obtain ⟨a, b, _, _⟩ := dec_all u
  cases e : decDigits u with
  | nil => exact absurd e a
  | cons c r =>
    rw [e, List.all_cons, Bool.and_eq_true] at b
    have hd := dig_of b.1
    intro f
    simp only [List.head?_cons, Option.some.injEq] at f
    rw [f] at hd
    exact absurd hd.1 (by decide)
theorem itoa_num {n : Int} (h0 : -9223372036854775808 ≤ n) (h1 : n ≤ 9223372036854775807) : numB (itoa n) = some n := by
  by_cases h : n < 0
  · obtain ⟨u, rfl⟩ : ∃ u : Nat, n = -(u : Int) := ⟨n.natAbs, by omega⟩
    obtain ⟨a, b, c, d⟩ := dec_all u
    have hl := dec_len (u := u) (by omega)
    have hl0 : 1 ≤ (decDigits u).length := by rw [decDigits_length]; exact nDigits_pos u
    rw [itoa_neg u (by omega)]
    unfold numB
    rw [if_pos (show (45 :: decDigits u).head? = some 45 from rfl)]
    show numM true (decDigits u) = _
    unfold numM
    rw [if_neg (by
      rintro (e | e | e | e)
      · omega
      · omega
      · exact d (by omega) e.1
      · rw [b] at e; cases e), c]
    simp; omega
  · obtain ⟨u, rfl⟩ : ∃ u : Nat, n = (u : Int) := ⟨n.toNat, by omega⟩
    obtain ⟨a, b, c, d⟩ := dec_all u
    have hl := dec_len (u := u) (by omega)
    have hl0 : 1 ≤ (decDigits u).length := by rw [decDigits_length]; exact nDigits_pos u
    rw [itoa_nonneg]
    unfold numB
    rw [if_neg (dec_head u)]
    unfold numM
    rw [if_neg (by
      rintro (e | e | e | e)
      · omega
      · omega
      · have := (dec_can u).2.2 e.1
        rcases e.2 with g | g
        · omega
        · cases g
      · rw [b] at e; cases e), c]
    simp; omega
theorem intB_rng {l : List UInt8} {n : Int} (h : parseIntB 64 l = .ok n) : -9223372036854775808 ≤ n ∧ n ≤ 9223372036854775807 := by
  unfold parseIntB at h
  split at h
  · cases h
  · simp only at h
    split at h
    · cases h
    · cases h
    · split at h
      · cases h
      · split at h
        · cases h
        · simp at h
          split at h <;> omega
/-- The program's way of telling a number: it parses, and prints as it was. -/
theorem num_iff (l : List UInt8) (n : Int) : numB l = some n ↔ parseIntB 64 l = .ok n ∧ itoa n = l := by
  constructor
  · intro h
    obtain ⟨a, b, c⟩ := num_itoa h
    exact ⟨by rw [← a]; exact intB_itoa b c, a⟩
  · rintro ⟨a, b⟩
    obtain ⟨c, d⟩ := intB_rng a
    rw [← b]; exact itoa_num c d
end Go.Proofs.YthmnkbldgpdejaaDoor.Val
