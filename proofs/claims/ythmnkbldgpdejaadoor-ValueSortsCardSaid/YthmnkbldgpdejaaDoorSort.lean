/- The plain mathematics of putting values in order: rows of three cells, and what holds of them round by round. -/
import Derived.Test.YthmnkbldgpdejaaDoorOrd2
namespace Go.Proofs.YthmnkbldgpdejaaDoor.Val
open Go Go.RowKit
structure Tri where
  k : Int
  n : Int
  s : ByteArray
def Tri.cells (t : Tri) : List Value := [.int .u8 t.k, .int .i64 t.n, .string t.s]
def Tri.form (t : Tri) : Prop := formB t.k t.n t.s.data.toList = true
def tcmp (a b : Tri) : Int := cmpV a.k a.n a.s.data.toList b.k b.n b.s.data.toList
def tless (a b : Tri) : Bool := lessV a.k a.n a.s.data.toList b.k b.n b.s.data.toList
def t0 : Tri := ⟨0, 0, { data := #[] }⟩
def flat (L : List Tri) : List Value := L.flatMap Tri.cells
theorem flat_cons (t : Tri) (L : List Tri) : flat (t :: L) = .int .u8 t.k :: .int .i64 t.n :: .string t.s :: flat L := rfl
theorem flat_len : ∀ L : List Tri, (flat L).length = L.length * 3
  | [] => rfl
  | t :: L => by rw [flat_cons]; simp only [List.length_cons, flat_len L]; omega
theorem flat_app (L M : List Tri) : flat (L ++ M) = flat L ++ flat M := by unfold flat; rw [List.flatMap_append]
theorem flat_at : ∀ (L : List Tri) (j : Nat), j < L.length → (flat L)[j * 3]? = some (.int .u8 (L.getD j t0).k) ∧ (flat L)[j * 3 + 1]? = some (.int .i64 (L.getD j t0).n) ∧ (flat L)[j * 3 + 2]? = some (.string (L.getD j t0).s)
  | [], j, h => by simp at h
  | t :: L, 0, _ => by rw [flat_cons]; exact ⟨rfl, rfl, rfl⟩
  | t :: L, j + 1, h => by
    have := flat_at L j (by simpa using h)
    rw [flat_cons, show (j + 1) * 3 = j * 3 + 1 + 1 + 1 by omega]
    simpa using this
theorem flat_set : ∀ (L : List Tri) (j : Nat) (t : Tri), j < L.length → (((flat L).set (j * 3) (.int .u8 t.k)).set (j * 3 + 1) (.int .i64 t.n)).set (j * 3 + 2) (.string t.s) = flat (L.set j t)
  | [], j, t, h => by simp at h
  | u :: L, 0, t, _ => by rw [flat_cons]; rfl
  | u :: L, j + 1, t, h => by
    have := flat_set L j t (by simpa using h)
    rw [flat_cons, show (j + 1) * 3 = j * 3 + 1 + 1 + 1 by omega]
    simp only [List.set_cons_succ, flat_cons]
    rw [← this]
theorem tcmp_neg (a b : Tri) : tcmp b a = - tcmp a b := cmpV_neg _ _ _ _ _ _
theorem tcmp_trans {a b c : Tri} (h : tcmp a b ≤ 0) (k : tcmp b c ≤ 0) : tcmp a c ≤ 0 := (cmpV_mid a.k a.n a.s.data.toList b.k b.n b.s.data.toList c.k c.n c.s.data.toList h k).1
theorem tless_not {a b : Tri} (ha : a.form) (hb : b.form) (h : tcmp a b ≤ 0) : tless b a = false := by
  cases e : tless b a
  · rfl
  · have h1 : tcmp b a = -1 := by
      unfold tcmp; rw [cmpV_less hb ha]
      unfold tless at e
      rw [e]; rfl
    rw [tcmp_neg] at h1
    omega
/-- The first j stand in order. -/
def Srt (j : Nat) (L : List Tri) : Prop := ∀ a b, a < b → b < j → tcmp (L.getD a t0) (L.getD b t0) ≤ 0
/-- The first i + 1 stand in order, but for what stands ahead of place p. -/
def SrtEx (p i : Nat) (L : List Tri) : Prop := ∀ a b, a < b → b ≤ i → b ≠ p → tcmp (L.getD a t0) (L.getD b t0) ≤ 0
theorem srt_start {i : Nat} {L : List Tri} (h : Srt i L) : SrtEx i i L := fun a b hab hb hne => h a b hab (by omega)
theorem srt_zero (L : List Tri) : Srt 0 L := fun a b _ hb => by omega
theorem srt_end0 {i : Nat} {L : List Tri} (h : SrtEx 0 i L) : Srt (i + 1) L := fun a b hab hb => h a b hab (by omega) (by omega)
theorem srt_end {p i : Nat} {L : List Tri} (h : SrtEx p i L) (hp : 1 ≤ p) (hc : tcmp (L.getD (p - 1) t0) (L.getD p t0) ≤ 0) : Srt (i + 1) L := by
  intro a b hab hb
  by_cases e : b = p
  · subst e
    by_cases f : a = b - 1
    · rw [f]; exact hc
    · exact tcmp_trans (h a (b - 1) (by omega) (by omega) (by omega)) hc
  · exact h a b hab (by omega) e
def swp (p : Nat) (L : List Tri) : List Tri := (L.set (p - 1) (L.getD p t0)).set p (L.getD (p - 1) t0)
theorem swp_len (p : Nat) (L : List Tri) : (swp p L).length = L.length := by unfold swp; simp
theorem getD_set (L : List Tri) (i j : Nat) (t : Tri) : (L.set i t).getD j t0 = if i = j ∧ j < L.length then t else L.getD j t0 := by
  simp only [List.getD, List.getElem?_set]
  by_cases e : i = j
  · by_cases f : j < L.length
    · simp [e, f]
    · simp [e, f]
  · simp [e]
theorem swp_get (p j : Nat) (L : List Tri) (hp : 1 ≤ p) (hl : p < L.length) : (swp p L).getD j t0 = if j = p then L.getD (p - 1) t0 else if j = p - 1 then L.getD p t0 else L.getD j t0 := by
  unfold swp
  rw [getD_set, getD_set, List.length_set]
  by_cases e : j = p
  · rw [if_pos ⟨e.symm, by omega⟩, if_pos e]
  · rw [if_neg (fun h => e h.1.symm), if_neg e]
    by_cases f : j = p - 1
    · rw [if_pos ⟨f.symm, by omega⟩, if_pos f]
    · rw [if_neg (fun h => f h.1.symm), if_neg f]
theorem srt_swp {p i : Nat} {L : List Tri} (h : SrtEx p i L) (hp : 1 ≤ p) (hpi : p ≤ i) (hl : i < L.length) (hc : ¬ tcmp (L.getD (p - 1) t0) (L.getD p t0) ≤ 0) : SrtEx (p - 1) i (swp p L) := by
  intro a b hab hb hne
  have hc2 : tcmp (L.getD p t0) (L.getD (p - 1) t0) ≤ 0 := by rw [tcmp_neg]; omega
  rw [swp_get p a L hp (by omega), swp_get p b L hp (by omega)]
  by_cases e : b = p
  · subst e
    rw [if_pos rfl, if_neg (by omega)]
    by_cases f : a = b - 1
    · rw [if_pos f]; exact hc2
    · rw [if_neg f]; exact h a (b - 1) (by omega) (by omega) (by omega)
  · rw [if_neg e, if_neg hne]
    by_cases f : a = p
    · rw [if_pos f]; exact h (p - 1) b (by omega) hb e
    · rw [if_neg f]
      by_cases g : a = p - 1
      · rw [if_pos g]; exact h p b (by omega) hb e
      · rw [if_neg g]; exact h a b hab hb e
/-- All that a row has is in form and no longer than may be. -/
def Fine (L : List Tri) : Prop := ∀ j, j < L.length → (L.getD j t0).form ∧ (L.getD j t0).s.size ≤ maxLen
theorem fine_nil : Fine [] := fun j h => by simp at h
theorem fine_snoc {L : List Tri} {t : Tri} (h : Fine L) (hf : t.form) (hs : t.s.size ≤ maxLen) : Fine (L ++ [t]) := by
  intro j hj
  simp only [List.length_append, List.length_singleton] at hj
  by_cases e : j < L.length
  · have : (L ++ [t]).getD j t0 = L.getD j t0 := by simp only [List.getD]; rw [List.getElem?_append_left e]
    rw [this]; exact h j e
  · have : j = L.length := by omega
    have e2 : (L ++ [t]).getD j t0 = t := by subst this; simp only [List.getD]; rw [List.getElem?_append_right (Nat.le_refl _)]; simp
    rw [e2]; exact ⟨hf, hs⟩
theorem fine_swp {L : List Tri} {p : Nat} (h : Fine L) (hp : 1 ≤ p) (hl : p < L.length) : Fine (swp p L) := by
  intro j hj
  rw [swp_len] at hj
  rw [swp_get p j L hp hl]
  split
  · exact h _ (by omega)
  · split
    · exact h _ hl
    · exact h _ hj
end Go.Proofs.YthmnkbldgpdejaaDoor.Val
