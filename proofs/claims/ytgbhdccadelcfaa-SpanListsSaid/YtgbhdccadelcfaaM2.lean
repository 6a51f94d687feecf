/- span: how many numbers two sets have together. -/
import Derived.Test.YtgbhdccadelcfaaT3
namespace Go.Proofs.Ytgbhdccadelcfaa.Sp
open Go Go.RowKit
/-- How many of the first N numbers are there. -/
def cnt (f : Int → Bool) : Nat → Int
  | 0 => 0
  | n + 1 => cnt f n + cond (f n) 1 0
theorem cnt_both (f g : Int → Bool) (N : Nat) : cnt (fun n => f n && g n) N + cnt (fun n => f n || g n) N = cnt f N + cnt g N := by
  induction N with
  | zero => rfl
  | succ N ih =>
    simp only [cnt]
    generalize f N = x
    generalize g N = y
    cases x <;> cases y <;> simp <;> omega
theorem cnt_apart (f g : Int → Bool) (N : Nat) (h : ∀ n, f n = true → g n = false) : cnt (fun n => f n || g n) N = cnt f N + cnt g N := by
  induction N with
  | zero => rfl
  | succ N ih =>
    have := h N
    simp only [cnt]
    generalize f N = x at *
    generalize g N = y at *
    cases x <;> cases y <;> simp at this ⊢ <;> omega
theorem cnt_cong (f g : Int → Bool) (N : Nat) (h : ∀ n, f n = g n) : cnt f N = cnt g N := by
  induction N with
  | zero => rfl
  | succ N ih => simp only [cnt, ih, h]
theorem cnt_span (a b : Int) (N : Nat) (h0 : 0 ≤ a) (h : a ≤ b + 1) : cnt (fun n => decide (a ≤ n) && decide (n ≤ b)) N = max 0 (min (b + 1) N - a) := by
  induction N with
  | zero => simp only [cnt]; omega
  | succ N ih =>
    simp only [cnt, ih]
    by_cases h1 : a ≤ (N : Int) <;> by_cases h2 : (N : Int) ≤ b <;> simp [h1, h2] <;> omega
theorem card_cnt (L : SL) (N : Nat) (h : Canon L) (hN : ∀ t ∈ L, t.2 < N) : cnt (hasB L) N = card L := by
  induction L with
  | nil =>
    rw [cnt_cong (hasB []) (fun _ => false) N (fun n => rfl)]
    have : ∀ N, cnt (fun _ => false) N = 0 := fun N => by
      induction N with
      | zero => rfl
      | succ N ih => simp only [cnt, ih, cond_false]; rfl
    rw [this]; rfl
  | cons t L ih =>
    have t0 := h.2 t List.mem_cons_self
    have t1 := hN t List.mem_cons_self
    have hL := fun u hu => canon_cut h 1 t (by simp) u (by simpa using hu)
    rw [cnt_cong (hasB (t :: L)) (fun n => (decide (t.1 ≤ n) && decide (n ≤ t.2)) || hasB L n) N (fun n => by simp [hasB]),
      cnt_apart (fun n => decide (t.1 ≤ n) && decide (n ≤ t.2)) (hasB L) N (fun n hn => by
        simp only [Bool.and_eq_true, decide_eq_true_eq] at hn
        refine Bool.eq_false_iff.2 (fun hh => ?_)
        obtain ⟨u, hu, h1, h2⟩ := (hasB_iff L n).1 hh
        have := hL u hu
        omega),
      cnt_span _ _ N t0.1 (by omega), ih (canon_drop h 1) (fun u hu => hN u (List.mem_cons_of_mem _ hu)), card_cons]
    omega
theorem card_both {L K M U : SL} (hL : Canon L) (hK : Canon K) (hM : Canon M) (hU : Canon U) (hm : ∀ n, mem M n ↔ mem L n ∧ mem K n) (hu : ∀ n, mem U n ↔ mem L n ∨ mem K n) : card M + card U = card L + card K := by
  obtain ⟨N, hN⟩ : ∃ N : Nat, (4294967295 : Int) < N := ⟨4294967296, by omega⟩
  have b : ∀ X : SL, Canon X → ∀ t ∈ X, t.2 < N := fun X hX t ht => by have := hX.2 t ht; omega
  rw [← card_cnt M N hM (b M hM), ← card_cnt U N hU (b U hU), ← card_cnt L N hL (b L hL), ← card_cnt K N hK (b K hK), ← cnt_both (hasB L) (hasB K)]
  rw [cnt_cong (hasB M) (fun n => hasB L n && hasB K n) N (fun n => by rw [Bool.eq_iff_iff, Bool.and_eq_true, hasB_iff, hasB_iff, hasB_iff]; exact hm n),
    cnt_cong (hasB U) (fun n => hasB L n || hasB K n) N (fun n => by rw [Bool.eq_iff_iff, Bool.or_eq_true, hasB_iff, hasB_iff, hasB_iff]; exact hu n)]
end Go.Proofs.Ytgbhdccadelcfaa.Sp
