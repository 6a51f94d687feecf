/- The order of values is one. -/
import Derived.Test.YthmnkbldgpdejaaDoorOrd
namespace Go.Proofs.YthmnkbldgpdejaaDoor.Val
open Go Go.RowKit
theorem cmpI_neg (a b : Int) : cmpI b a = - cmpI a b := by
  unfold cmpI
  split <;> split <;> (try split) <;> omega
theorem cmpI_rng (a b : Int) : cmpI a b = -1 ∨ cmpI a b = 0 ∨ cmpI a b = 1 := by
  unfold cmpI
  by_cases h : a < b
  · rw [if_pos h]; exact .inl rfl
  · by_cases k : b < a
    · rw [if_neg h, if_pos k]; exact .inr (.inr rfl)
    · rw [if_neg h, if_neg k]; exact .inr (.inl rfl)
theorem cmpI_zero {a b : Int} : cmpI a b = 0 ↔ a = b := by
  unfold cmpI
  by_cases h : a < b
  · rw [if_pos h]; constructor <;> intro e <;> omega
  · by_cases k : b < a
    · rw [if_neg h, if_pos k]; constructor <;> intro e <;> omega
    · rw [if_neg h, if_neg k]; constructor <;> intro e <;> omega
theorem cmpS_neg (a b : List UInt8) : cmpS b a = - cmpS a b := by
  unfold cmpS
  rcases ltB_tri a b with ⟨p, q, _⟩ | ⟨p, q, _⟩ | ⟨p, q, _⟩ <;> rw [p, q] <;> rfl
theorem cmpS_rng (a b : List UInt8) : cmpS a b = -1 ∨ cmpS a b = 0 ∨ cmpS a b = 1 := by
  unfold cmpS
  rcases ltB_tri a b with ⟨p, q, _⟩ | ⟨p, q, _⟩ | ⟨p, q, _⟩ <;> rw [p, q] <;> simp
theorem cmpS_zero {a b : List UInt8} : cmpS a b = 0 ↔ a = b := by
  unfold cmpS
  rcases ltB_tri a b with ⟨p, q, r⟩ | ⟨p, q, r⟩ | ⟨p, q, r⟩ <;> rw [p, q] <;> simp [r]
/-- What is asked of three: neither ahead of the next, so not ahead of the last; and alike only if all are. -/
def Mid (x y z : Int) : Prop := x ≤ 0 → y ≤ 0 → z ≤ 0 ∧ (z = 0 → x = 0 ∧ y = 0) ∧ (x = 0 → y = 0 → z = 0)
theorem mid_I (a b c : Int) : Mid (cmpI a b) (cmpI b c) (cmpI a c) := by
  intro h k
  have h1 : a ≤ b := by
    unfold cmpI at h
    by_cases e : a < b
    · omega
    · by_cases f : b < a
      · rw [if_neg e, if_pos f] at h; omega
      · omega
  have k1 : b ≤ c := by
    unfold cmpI at k
    by_cases e : b < c
    · omega
    · by_cases f : c < b
      · rw [if_neg e, if_pos f] at k; omega
      · omega
  refine ⟨?_, fun e => ?_, fun e f => ?_⟩
  · unfold cmpI
    by_cases e : a < c
    · rw [if_pos e]; omega
    · rw [if_neg e, if_neg (by omega)]; omega
  · have := cmpI_zero.1 e
    exact ⟨cmpI_zero.2 (by omega), cmpI_zero.2 (by omega)⟩
  · have := cmpI_zero.1 e
    have := cmpI_zero.1 f
    exact cmpI_zero.2 (by omega)
theorem cmpS_le {a b : List UInt8} (h : cmpS a b ≤ 0) : ltB a b = true ∨ a = b := by
  rcases ltB_tri a b with ⟨p, q, r⟩ | ⟨p, q, r⟩ | ⟨p, q, r⟩
  · exact .inl p
  · unfold cmpS at h; rw [p, q] at h; simp at h
  · exact .inr r
theorem cmpS_lt {a b : List UInt8} (h : ltB a b = true) : cmpS a b = -1 := by unfold cmpS; rw [h]; rfl
theorem mid_S (a b c : List UInt8) : Mid (cmpS a b) (cmpS b c) (cmpS a c) := by
  intro h k
  rcases cmpS_le h with h | rfl
  · rcases cmpS_le k with k | rfl
    · rw [cmpS_lt h, cmpS_lt k, cmpS_lt (ltB_trans a b c h k)]; refine ⟨?_, ?_, ?_⟩ <;> omega
    · rw [cmpS_lt h]; refine ⟨?_, ?_, ?_⟩ <;> omega
  · rcases cmpS_le k with k | rfl
    · rw [cmpS_lt k]; refine ⟨?_, ?_, ?_⟩ <;> omega
    · rw [cmpS_zero.2 rfl]; refine ⟨?_, ?_, ?_⟩ <;> omega
theorem mid_or {x1 x2 x3 y1 y2 y3 z1 z2 z3 : Int} (h1 : Mid x1 y1 z1) (h2 : Mid x2 y2 z2) (h3 : Mid x3 y3 z3) : Mid (orI x1 x2 x3) (orI y1 y2 y3) (orI z1 z2 z3) := by
  unfold Mid orI at *
  split <;> split <;> split <;> (try split) <;> (try split) <;> (try split) <;> intro h k <;>
    (first
      | (have a1 := h1 (by omega) (by omega); have a2 := h2 (by omega) (by omega); have a3 := h3 (by omega) (by omega); omega)
      | (have a1 := h1 (by omega) (by omega); have a2 := h2 (by omega) (by omega); omega)
      | (have a1 := h1 (by omega) (by omega); omega))
theorem or_neg (x y z : Int) : orI (-x) (-y) (-z) = - orI x y z := by
  unfold orI
  by_cases hx : x = 0
  · by_cases hy : y = 0
    · rw [if_pos (by omega), if_pos (by omega), if_pos hx, if_pos hy]
    · rw [if_pos (by omega), if_neg (by omega), if_pos hx, if_neg hy]
  · rw [if_neg (by omega), if_neg hx]
theorem or_zero {x y z : Int} : orI x y z = 0 ↔ x = 0 ∧ y = 0 ∧ z = 0 := by
  unfold orI
  by_cases hx : x = 0
  · by_cases hy : y = 0
    · rw [if_pos hx, if_pos hy]; omega
    · rw [if_pos hx, if_neg hy]; omega
  · rw [if_neg hx]; omega
theorem or_rng {x y z : Int} (hx : x = -1 ∨ x = 0 ∨ x = 1) (hy : y = -1 ∨ y = 0 ∨ y = 1) (hz : z = -1 ∨ z = 0 ∨ z = 1) : orI x y z = -1 ∨ orI x y z = 0 ∨ orI x y z = 1 := by
  unfold orI
  split
  · split
    · exact hz
    · exact hy
  · exact hx
theorem cmpV_neg (k n : Int) (s : List UInt8) (k' n' : Int) (s' : List UInt8) : cmpV k' n' s' k n s = - cmpV k n s k' n' s' := by
  unfold cmpV
  rw [cmpI_neg k k', cmpI_neg n n', cmpS_neg s s', or_neg]
theorem cmpV_rng (k n : Int) (s : List UInt8) (k' n' : Int) (s' : List UInt8) : cmpV k n s k' n' s' = -1 ∨ cmpV k n s k' n' s' = 0 ∨ cmpV k n s k' n' s' = 1 :=
  or_rng (cmpI_rng _ _) (cmpI_rng _ _) (cmpS_rng _ _)
theorem cmpV_zero {k n : Int} {s : List UInt8} {k' n' : Int} {s' : List UInt8} : cmpV k n s k' n' s' = 0 ↔ k = k' ∧ n = n' ∧ s = s' := by
  unfold cmpV
  rw [or_zero, cmpI_zero, cmpI_zero, cmpS_zero]
theorem cmpV_mid (k n : Int) (s : List UInt8) (k' n' : Int) (s' : List UInt8) (k'' n'' : Int) (s'' : List UInt8) : Mid (cmpV k n s k' n' s') (cmpV k' n' s' k'' n'' s'') (cmpV k n s k'' n'' s'') :=
  mid_or (mid_I _ _ _) (mid_I _ _ _) (mid_S _ _ _)
end Go.Proofs.YthmnkbldgpdejaaDoor.Val
