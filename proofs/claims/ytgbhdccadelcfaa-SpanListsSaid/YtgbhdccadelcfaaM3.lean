/- span: numbers that come one by one: how many spans there are. -/
import Derived.Test.YtgbhdccadelcfaaT3
namespace Go.Proofs.Ytgbhdccadelcfaa.Sp
open Go Go.RowKit
def cn (g : Nat → Bool) : Nat → Nat
  | 0 => 0
  | n + 1 => cn g n + cond (g n) 1 0
theorem cn_cong (f g : Nat → Bool) (N : Nat) (h : ∀ n, n < N → f n = g n) : cn f N = cn g N := by
  induction N with
  | zero => rfl
  | succ N ih => simp only [cn, ih (fun n hn => h n (by omega)), h N (by omega)]
theorem cn_apart (f g : Nat → Bool) (N : Nat) (h : ∀ n, f n = true → g n = false) : cn (fun n => f n || g n) N = cn f N + cn g N := by
  induction N with
  | zero => rfl
  | succ N ih =>
    have := h N
    simp only [cn]
    generalize f N = x at *
    generalize g N = y at *
    cases x <;> cases y <;> simp at this ⊢ <;> omega
theorem cn_none (N : Nat) : cn (fun _ => false) N = 0 := by
  induction N with
  | zero => rfl
  | succ N ih => simp only [cn, ih, cond_false]
theorem cn_one (c : Nat) (N : Nat) : cn (fun n => n == c) N = if c < N then 1 else 0 := by
  induction N with
  | zero => rfl
  | succ N ih =>
    simp only [cn, ih]
    by_cases h : N = c
    · subst h; simp
    · have : (N == c) = false := by simpa using h
      rw [this]
      simp only [cond_false, Nat.add_zero]
      split <;> split <;> first | rfl | omega
def st (L : SL) (n : Int) : Bool := hasB L n && !hasB L (n - 1)
theorem hasB_false {L : SL} {n : Int} (h : ¬ mem L n) : hasB L n = false := Bool.eq_false_iff.2 fun e => h ((hasB_iff L n).1 e)
theorem st_cons {t : Int × Int} {L : SL} (h : Canon (t :: L)) (n : Int) : st (t :: L) n = ((n == t.1) || st L n) := by
  have t0 := h.2 t List.mem_cons_self
  have hL := fun u hu => canon_cut h 1 t (by simp) u (by simpa using hu)
  have hc : ∀ n, hasB (t :: L) n = ((decide (t.1 ≤ n) && decide (n ≤ t.2)) || hasB L n) := fun n => by simp [hasB]
  unfold st
  rw [hc, hc]
  by_cases hm : mem L n
  · obtain ⟨u, hu, h1, h2⟩ := hm
    have h3 := hL u hu
    have e1 : hasB L n = true := (hasB_iff L n).2 ⟨u, hu, h1, h2⟩
    have e2 : decide (n - 1 ≤ t.2) = false := decide_eq_false (by omega)
    have e3 : (n == t.1) = false := by simp; omega
    rw [e1, e2, e3]
    simp
  · rw [hasB_false hm]
    by_cases hn : t.1 ≤ n ∧ n ≤ t.2
    · have e0 : hasB L (n - 1) = false := hasB_false (fun ⟨u, hu, h1, h2⟩ => by have := hL u hu; omega)
      rw [e0]
      by_cases he : n = t.1
      · simp [he, t0.2.1]; omega
      · have e1 : (n == t.1) = false := by simpa using he
        have e2 : decide (t.1 ≤ n - 1) = true := decide_eq_true (by omega)
        have e3 : decide (n - 1 ≤ t.2) = true := decide_eq_true (by omega)
        rw [e1, e2, e3]
        simp
    · have e1 : (decide (t.1 ≤ n) && decide (n ≤ t.2)) = false := by
        rw [Bool.and_eq_false_iff, decide_eq_false_iff_not, decide_eq_false_iff_not]; omega
      have e2 : (n == t.1) = false := by simp; omega
      rw [e1, e2]
      simp
theorem starts {L : SL} (first : Int) (N : Nat) (h : Canon L) (hr : ∀ t ∈ L, first ≤ t.1 ∧ t.1 < first + N) : cn (fun j => st L (first + j)) N = L.length := by
  induction L with
  | nil => rw [cn_cong _ (fun _ => false) N (fun n _ => by simp [st, hasB]), cn_none]; rfl
  | cons t L ih =>
    have ht := hr t List.mem_cons_self
    have hL := fun u hu => canon_cut h 1 t (by simp) u (by simpa using hu)
    have t0 := h.2 t List.mem_cons_self
    rw [cn_cong _ (fun j => (j == (t.1 - first).toNat) || st L (first + j)) N (fun n _ => by
      rw [st_cons h]
      congr 1
      rw [Bool.eq_iff_iff, beq_iff_eq, beq_iff_eq]
      omega),
      cn_apart (fun j => j == (t.1 - first).toNat) (fun j => st L (first + j)) N (fun n hn => by
        rw [beq_iff_eq] at hn
        unfold st
        rw [hasB_false (fun ⟨u, hu, h1, h2⟩ => by have := hL u hu; omega)]
        rfl),
      cn_one, if_pos (by omega), ih (canon_drop h 1) (fun u hu => hr u (List.mem_cons_of_mem _ hu)), List.length_cons]
    omega
/-- Which of the 256 numbers from the first on are there: how many begin. -/
def rn (f : Nat → Bool) : Nat → Nat := cn fun j => f j && (j == 0 || !f (j - 1))
def Holds (L : SL) (first : Int) (f : Nat → Bool) : Prop := ∀ n, mem L n ↔ ∃ j : Nat, j < 256 ∧ f j = true ∧ n = first + (j : Int)
theorem runs_len {L : SL} {first : Int} {f : Nat → Bool} (h : Canon L) (hm : Holds L first f) : rn f 256 = L.length := by
  have hb : ∀ j : Nat, j < 256 → hasB L (first + (j : Int)) = f j := fun j hj => by
    rw [Bool.eq_iff_iff, hasB_iff, hm]
    constructor
    · rintro ⟨k, _, hk, e⟩
      obtain rfl : j = k := by omega
      exact hk
    · exact fun e => ⟨j, hj, e, rfl⟩
  rw [← starts first 256 h (fun t ht => ?_)]
  · unfold rn
    refine cn_cong _ _ _ (fun j hj => ?_)
    unfold st
    rw [hb j hj]
    congr 1
    by_cases h0 : j = 0
    · subst h0
      rw [hasB_false (fun hh => by
        obtain ⟨k, _, _, e⟩ := (hm _).1 hh
        omega)]
      rfl
    · have := hb (j - 1) (by omega)
      rw [show first + ((j - 1 : Nat) : Int) = first + (j : Int) - 1 by omega] at this
      rw [this]
      simp [h0]
  · obtain ⟨k, hk, _, e⟩ := (hm t.1).1 (mem_of ht (Int.le_refl _) (h.2 t ht).2.1)
    omega
def on1 (f : Nat → Bool) (k : Nat) : Nat → Bool := fun j => j == k || f j
theorem holds_add {L M : SL} {first : Int} {f : Nat → Bool} {k : Nat} (hk : k < 256) (h : Holds L first f) (hM : ∀ n, mem M n ↔ mem L n ∨ (first + k ≤ n ∧ n ≤ first + k)) : Holds M first (on1 f k) := by
  intro n
  rw [hM, h]
  constructor
  · rintro (⟨j, hj, e, rfl⟩ | h2)
    · exact ⟨j, hj, by simp [on1, e], rfl⟩
    · exact ⟨k, hk, by simp [on1], by omega⟩
  · rintro ⟨j, hj, e, rfl⟩
    by_cases hjk : j = k
    · subst hjk
      exact .inr ⟨Int.le_refl _, Int.le_refl _⟩
    · exact .inl ⟨j, hj, by simpa [on1, hjk] using e, rfl⟩
theorem holds_all {L : SL} {first : Int} {f : Nat → Bool} (h : Holds L first f) (n : Int) : mem [(first, first + 255)] n ↔ mem L n ∨ (first ≤ n ∧ n ≤ first + 255) := by
  rw [mem_one, h]
  constructor
  · exact .inr
  · rintro (⟨j, hj, _, rfl⟩ | h)
    · omega
    · exact h
/-- 256 truths as cells. -/
def Fb (f : Nat → Bool) : Array Value := ((List.range 256).map fun j => Value.bool (f j)).toArray
theorem fb_at (f : Nat → Bool) {j : Nat} (hj : j < 256) : (Fb f)[j]? = some (.bool (f j)) := by simp [Fb, hj]
theorem fb_set (f : Nat → Bool) {k : Nat} (hk : k < 256) : (Fb f).setIfInBounds k (.bool true) = Fb (on1 f k) := by
  apply Array.ext_getElem?
  intro j
  rw [Array.getElem?_setIfInBounds]
  by_cases hj : j < 256
  · by_cases hkj : k = j
    · subst hkj
      rw [if_pos rfl, if_pos (by simpa [Fb] using hk), fb_at _ hk]
      simp [on1]
    · have : (j == k) = false := by simp; omega
      rw [if_neg hkj, fb_at _ hj, fb_at _ hj]
      simp [on1, this]
  · have e1 : ∀ g, (Fb g)[j]? = none := fun g => by rw [Array.getElem?_eq_none]; simp [Fb]; omega
    rw [if_neg (by omega), e1, e1]
end Go.Proofs.Ytgbhdccadelcfaa.Sp
