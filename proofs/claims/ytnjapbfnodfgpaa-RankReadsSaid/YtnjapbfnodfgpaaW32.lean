/- The document's ReadText answers what the program's does. -/
import Derived.Test.YtnjapbfnodfgpaaW31
namespace Go.Proofs.Ytnjapbfnodfgpaa.Rk
open Go Go.RowKit
/-- Where the document's ReadText finds an end, and the bytes ahead of it. -/
def dtS : List Int → Nat → List Int → Option (List Int × Nat)
  | t, i, x :: y :: s => if x = 0 ∧ y = 0 then some (t, i + 2) else if x = 0 then dtS (t ++ [x]) (i + 2) s else dtS (t ++ [x]) (i + 1) (y :: s)
  | _, _, [_] => none
  | _, _, [] => none
termination_by _ _ s => s.length
theorem dt_text : ∀ (u t : List Int) (i : Nat) (r : List Int), dtS t i (esc u ++ (0 :: 0 :: r)) = some (t ++ u, i + (esc u).length + 2)
  | [], t, i, r => by
    show dtS t i (0 :: 0 :: r) = _
    rw [dtS, if_pos ⟨rfl, rfl⟩]
    simp [esc]
  | x :: u, t, i, r => by
    rw [esc_cons]
    by_cases hx : x = 0
    · subst hx
      rw [if_pos rfl, List.append_assoc]
      show dtS t i (0 :: 255 :: (esc u ++ (0 :: 0 :: r))) = _
      rw [dtS, if_neg (by decide), if_pos rfl, dt_text u (t ++ [0]) (i + 2) r]
      simp; omega
    · rw [if_neg hx, List.append_assoc]
      have ih := dt_text u (t ++ [x]) (i + 1) r
      cases hs : esc u ++ (0 :: 0 :: r) with
      | nil => simp at hs
      | cons y s =>
        rw [hs] at ih
        show dtS t i (x :: y :: s) = _
        rw [dtS, if_neg (fun h => hx h.1), if_neg hx, ih]
        simp; omega
/-- What is read is the code of what is told. -/
theorem rt_inv (most : Nat) : ∀ (s : List Int) (m : Bool) (t : List Int) (i : Nat) (t' : List Int) (i' : Nat), t.length ≤ most → rt most m t i s = some (t', i') →
    ∃ u r, (if m then 0 :: s else s) = esc u ++ (0 :: 0 :: r) ∧ t' = t ++ u ∧ i' + (if m then 1 else 0) = i + (esc u).length + 2 ∧ t'.length ≤ most
  | [], m, t, i, t', i', _, h => by cases m <;> simp [rt] at h
  | x :: s, false, t, i, t', i', ht, h => by
    rw [rt] at h
    by_cases hx : x = 0
    · rw [if_pos hx] at h
      obtain ⟨u, r, h1, h2, h3, h4⟩ := rt_inv most s true t (i + 1) t' i' ht h
      have h1' : 0 :: s = esc u ++ (0 :: 0 :: r) := h1
      have h3' : i' + 1 = i + 1 + (esc u).length + 2 := h3
      exact ⟨u, r, by show x :: s = _; rw [hx]; exact h1', h2, by show i' + 0 = _; omega, h4⟩
    · rw [if_neg hx] at h
      by_cases hm : most < t.length + 1
      · rw [if_pos hm] at h; cases h
      · rw [if_neg hm] at h
        obtain ⟨u, r, h1, h2, h3, h4⟩ := rt_inv most s false (t ++ [x]) (i + 1) t' i' (by simp; omega) h
        have h1' : s = esc u ++ (0 :: 0 :: r) := h1
        have h3' : i' + 0 = i + 1 + (esc u).length + 2 := h3
        exact ⟨x :: u, r, by show x :: s = _; rw [esc_cons, if_neg hx, h1']; rfl, by rw [h2]; simp, by show i' + 0 = _; rw [esc_cons, if_neg hx]; simp; omega, h4⟩
  | x :: s, true, t, i, t', i', ht, h => by
    rw [rt] at h
    by_cases hx : x = 255
    · rw [if_pos hx] at h
      by_cases hm : most < t.length + 1
      · rw [if_pos hm] at h; cases h
      · rw [if_neg hm] at h
        obtain ⟨u, r, h1, h2, h3, h4⟩ := rt_inv most s false (t ++ [0]) (i + 1) t' i' (by simp; omega) h
        have h1' : s = esc u ++ (0 :: 0 :: r) := h1
        have h3' : i' + 0 = i + 1 + (esc u).length + 2 := h3
        exact ⟨0 :: u, r, by show 0 :: x :: s = _; rw [esc_cons, if_pos rfl, hx, h1']; rfl, by rw [h2]; simp, by show i' + 1 = _; rw [esc_cons, if_pos rfl]; simp; omega, h4⟩
    · rw [if_neg hx] at h
      by_cases hy : x = 0
      · rw [if_pos hy] at h
        cases h
        exact ⟨[], s, by simp [hy, esc], by simp, by simp [esc], ht⟩
      · rw [if_neg hy] at h; cases h
theorem fr_iff (l q : List Int) : fr l q = true ↔ ∃ r, l = q ++ r := by
  unfold fr
  rw [decide_eq_true_iff]
  constructor
  · rintro ⟨_, h⟩
    exact ⟨l.drop q.length, by rw [← congrArg (· ++ l.drop q.length) h]; simp⟩
  · rintro ⟨r, rfl⟩
    simp
/-- What the document's ReadText answers. -/
theorem dt_eq (most : Nat) (l : List Int) :
    (dtS [] 0 l = none → rt most false [] 0 l = none) ∧
    (∀ t i, dtS [] 0 l = some (t, i) → most < t.length → rt most false [] 0 l = none) ∧
    (∀ t i, dtS [] 0 l = some (t, i) → t.length ≤ most → fr l (textC t) = false → rt most false [] 0 l = none) ∧
    (∀ t i, dtS [] 0 l = some (t, i) → t.length ≤ most → fr l (textC t) = true → rt most false [] 0 l = some (t, i)) := by
  have key : ∀ t i, rt most false [] 0 l = some (t, i) → dtS [] 0 l = some (t, i) ∧ t.length ≤ most ∧ fr l (textC t) = true := by
    intro t i h
    obtain ⟨u, r, h1, h2, h3, h4⟩ := rt_inv most l false [] 0 t i (Nat.zero_le _) h
    simp at h1 h2 h3
    subst h2
    have hd := dt_text t [] 0 r
    rw [← h1] at hd
    refine ⟨by rw [hd]; simp; omega, h4, (fr_iff _ _).2 ⟨r, ?_⟩⟩
    rw [h1]
    unfold textC
    simp
  refine ⟨fun h => ?_, fun t i h hm => ?_, fun t i h hm hf => ?_, fun t i h hm hf => ?_⟩
  · cases hr : rt most false [] 0 l with
    | none => rfl
    | some p => obtain ⟨h1, _⟩ := key p.1 p.2 hr; rw [h] at h1; cases h1
  · cases hr : rt most false [] 0 l with
    | none => rfl
    | some p => obtain ⟨h1, h2, _⟩ := key p.1 p.2 hr; rw [h] at h1; cases h1; omega
  · cases hr : rt most false [] 0 l with
    | none => rfl
    | some p => obtain ⟨h1, _, h3⟩ := key p.1 p.2 hr; rw [h] at h1; cases h1; rw [hf] at h3; cases h3
  · obtain ⟨r, hr⟩ := (fr_iff _ _).1 hf
    have h1 := rt_text most t r hm
    rw [← hr] at h1
    obtain ⟨h2, _⟩ := key _ _ h1
    rw [h] at h2
    rw [h1, ← h2]
end Go.Proofs.Ytnjapbfnodfgpaa.Rk
