/- place: whatever order moves come in, as long as no two of one vertex have one epoch. -/
import Derived.Test.YtlpbldkblchkpaaC2
namespace Go.Proofs.Ytlpbldkblchkpaa.Pl
open Go Go.RowKit
/-- A move that may be. -/
def Ok (n : Int) (i : Nat) (t : O6) : Prop := (t.2.2.1 < n ∧ okV t.1) ∧ at_ t.1 = i
/-- What an entry is behind moves. -/
def Inv (n : Int) (L : List O6) (G : Nat → Ent) (i : Nat) : Prop :=
  (∀ t ∈ L, Ok n i t → t.2.2.2.2.1 ≤ (G i).2.2) ∧ 0 ≤ (G i).2.2 ∧ (G i = home n i ∨ ∃ t ∈ L, Ok n i t ∧ G i = (1 + (i : Int), t.2.2.1, t.2.2.2.2.1) ∧ 0 < t.2.2.2.2.1)
theorem inv_home (n : Int) (i : Nat) : Inv n [] (home n) i := ⟨fun t ht => by simp at ht, by simp [home], .inl rfl⟩
theorem inv_step {n : Int} {L : List O6} {G : Nat → Ent} {i : Nat} (h : Inv n L G i) (t : O6) : Inv n (L ++ [t]) (moveG n G t.1 t.2.2.1 t.2.2.2.2.1) i := by
  obtain ⟨h1, h2, h3⟩ := h
  have hmem : ∀ s ∈ L ++ [t], s ∈ L ∨ s = t := fun s hs => by simpa using hs
  by_cases h0 : moveE n G t.1 t.2.2.1 t.2.2.2.2.1 = 0
  · have hG : moveG n G t.1 t.2.2.1 t.2.2.2.2.1 = put G (at_ t.1) ((G (at_ t.1)).1, t.2.2.1, t.2.2.2.2.1) := by unfold moveG; rw [if_pos h0]
    rw [hG]
    obtain ⟨hv, hlt⟩ := moveE_zero.1 h0
    by_cases e : i = at_ t.1
    · subst e
      have g1 : (G (at_ t.1)).1 = 1 + ((at_ t.1 : Nat) : Int) := by
        rcases h3 with h | ⟨s, _, _, h, _⟩
        · rw [h]; simp [home]; omega
        · rw [h]
      have hp : put G (at_ t.1) ((G (at_ t.1)).1, t.2.2.1, t.2.2.2.2.1) (at_ t.1) = (1 + ((at_ t.1 : Nat) : Int), t.2.2.1, t.2.2.2.2.1) := by simp [put, g1]
      unfold Inv
      rw [hp]
      refine ⟨fun s hs hok => ?_, by simp only; omega, .inr ⟨t, by simp, ⟨hv, rfl⟩, rfl, by omega⟩⟩
      rcases hmem s hs with hs | rfl
      · have := h1 s hs hok; simp only; omega
      · exact Int.le_refl _
    · have hp : put G (at_ t.1) ((G (at_ t.1)).1, t.2.2.1, t.2.2.2.2.1) i = G i := by simp [put, e]
      unfold Inv
      rw [hp]
      refine ⟨fun s hs hok => ?_, h2, ?_⟩
      · rcases hmem s hs with hs | rfl
        · exact h1 s hs hok
        · exact absurd hok.2.symm e
      · rcases h3 with h | ⟨s, hs, h⟩
        · exact .inl h
        · exact .inr ⟨s, by simp [hs], h⟩
  · have hG : moveG n G t.1 t.2.2.1 t.2.2.2.2.1 = G := by unfold moveG; rw [if_neg h0]
    rw [hG]
    refine ⟨fun s hs hok => ?_, h2, ?_⟩
    · rcases hmem s hs with hs | rfl
      · exact h1 s hs hok
      · have hn := mt moveE_zero.2 h0
        have := hok.1
        have e := hok.2
        rw [← e]
        exact Int.not_lt.1 (fun hh => hn ⟨this, hh⟩)
    · rcases h3 with h | ⟨s, hs, h⟩
      · exact .inl h
      · exact .inr ⟨s, by simp [hs], h⟩
theorem inv_all {n : Int} (M : List O6) : ∀ {L : List O6} {G : Nat → Ent} {i : Nat}, Inv n L G i → Inv n (L ++ M) (moves n G M) i := by
  induction M with
  | nil => intro L G i h; simpa [moves] using h
  | cons t M ih =>
    intro L G i h
    have := ih (inv_step h t)
    rw [List.append_assoc] at this
    exact this
/-- No two moves of one vertex to unlike nodes have one epoch. -/
def Apart (L : List O6) : Prop := ∀ s ∈ L, ∀ t ∈ L, s.1 = t.1 → s.2.2.2.2.1 = t.2.2.2.2.1 → s.2.2.1 = t.2.2.1
theorem moves_alike {n : Int} {L M : List O6} (hm : ∀ t, t ∈ L ↔ t ∈ M) (ha : Apart L) (i : Nat) : moves n (home n) L i = moves n (home n) M i := by
  obtain ⟨a1, a2, a3⟩ := inv_all L (inv_home n i)
  obtain ⟨b1, b2, b3⟩ := inv_all M (inv_home n i)
  simp only [List.nil_append] at a1 a3 b1 b3
  generalize moves n (home n) L i = a at *
  generalize moves n (home n) M i = b at *
  have hh : (home n i).2.2 = 0 := rfl
  have e1 : a.2.2 ≤ b.2.2 := by
    rcases a3 with h | ⟨t, ht, hok, h, _⟩
    · rw [h, hh]; exact b2
    · rw [h]; exact b1 t ((hm t).1 ht) hok
  have e2 : b.2.2 ≤ a.2.2 := by
    rcases b3 with h | ⟨t, ht, hok, h, _⟩
    · rw [h, hh]; exact a2
    · rw [h]; exact a1 t ((hm t).2 ht) hok
  rcases a3 with h | ⟨t, ht, hok, h, hp⟩
  · rcases b3 with k | ⟨s, hs, hok, k, hp⟩
    · rw [h, k]
    · rw [h, hh] at e2; rw [k] at e2; simp only at e2; omega
  · rcases b3 with k | ⟨s, hs, hok2, k, hp2⟩
    · rw [k, hh] at e1; rw [h] at e1; simp only at e1; omega
    · rw [h, k] at e1 e2 ⊢
      simp only at e1 e2
      have hv : t.1 = s.1 := by
        have h1 := at_eq hok.1.2
        have h2 := at_eq hok2.1.2
        have h3 : at_ t.1 = at_ s.1 := hok.2.trans hok2.2.symm
        omega
      have he : t.2.2.2.2.1 = s.2.2.2.2.1 := by omega
      rw [ha t ht s ((hm s).2 hs) hv he, he]
theorem rows_alike {G F : Nat → Ent} (h : ∀ i, G i = F i) : rows G = rows F := by rw [show G = F from funext h]
/-- What the first j steps don't say. -/
def NoC (L : List O6) (x y : Nat) : Prop := ∀ s t, L[y]? = some s → L[x]? = some t → t.1 = s.1 → t.2.2.2.2.1 = s.2.2.2.2.1 → t.2.2.1 = s.2.2.1
theorem apart_of {L : List O6} (h : ∀ x, x < L.length → ∀ y, y < x → NoC L x y) : Apart L := by
  intro s hs t ht hv he
  obtain ⟨y, hy⟩ := List.getElem?_of_mem hs
  obtain ⟨x, hx⟩ := List.getElem?_of_mem ht
  have ly := (List.getElem?_eq_some_iff.1 hy).1
  have lx := (List.getElem?_eq_some_iff.1 hx).1
  rcases Nat.lt_trichotomy x y with h1 | h1 | h1
  · exact h y ly x h1 t s hx hy hv he
  · subst h1; rw [hx] at hy; injection hy with hy; rw [hy]
  · exact (h x lx y h1 s t hy hx hv.symm he.symm).symm
theorem moves_app (n : Int) (G : Nat → Ent) (L M : List O6) : moves n (moves n G L) M = moves n G (L ++ M) := by
  unfold moves; rw [List.foldl_append]
theorem one_said {n : Int} {L : List O6} (q : Nat) (ha : Apart L) : mv (rows (moves n (home n) L)) = mv (rows (moves n (moves n (home n) L.reverse) (L.drop q))) := by
  rw [moves_app]
  congr 1
  refine rows_alike fun i => moves_alike (fun t => ?_) ha i
  rw [List.mem_append, List.mem_reverse]
  exact ⟨.inl, fun h => h.elim id (fun h => List.mem_of_mem_drop h)⟩
end Go.Proofs.Ytlpbldkblchkpaa.Pl
