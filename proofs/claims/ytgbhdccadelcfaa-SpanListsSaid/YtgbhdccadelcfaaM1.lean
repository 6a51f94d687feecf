/- span: sets of numbers as lists of spans: their mathematics. -/
import Derived.Test.YtgbhdccadelcfaaS1
namespace Go.Proofs.Ytgbhdccadelcfaa.Sp
open Go Go.RowKit
abbrev SL := List (Int × Int)
def Canon (L : SL) : Prop := L.Pairwise (fun s t => s.2 + 1 < t.1) ∧ ∀ t ∈ L, 0 ≤ t.1 ∧ t.1 ≤ t.2 ∧ t.2 ≤ 4294967295
def mem (L : SL) (n : Int) : Prop := ∃ t ∈ L, t.1 ≤ n ∧ n ≤ t.2
theorem mem_nil (n : Int) : ¬ mem [] n := by rintro ⟨t, h, _⟩; cases h
theorem mem_cons (t : Int × Int) (L : SL) (n : Int) : mem (t :: L) n ↔ (t.1 ≤ n ∧ n ≤ t.2) ∨ mem L n := by
  unfold mem
  constructor
  · rintro ⟨u, h, h2⟩
    rcases List.mem_cons.1 h with rfl | h
    · exact .inl h2
    · exact .inr ⟨u, h, h2⟩
  · rintro (h | ⟨u, h, h2⟩)
    · exact ⟨t, List.mem_cons_self, h⟩
    · exact ⟨u, List.mem_cons_of_mem _ h, h2⟩
theorem mem_app (L M : SL) (n : Int) : mem (L ++ M) n ↔ mem L n ∨ mem M n := by
  induction L with
  | nil => simp [mem_nil]
  | cons t L ih => rw [List.cons_append, mem_cons, mem_cons, ih, or_assoc]
theorem canon_nil : Canon [] := ⟨List.Pairwise.nil, fun _ h => by cases h⟩
theorem canon_app (L M : SL) : Canon (L ++ M) ↔ Canon L ∧ Canon M ∧ ∀ s ∈ L, ∀ t ∈ M, s.2 + 1 < t.1 := by
  unfold Canon
  rw [List.pairwise_append]
  constructor
  · rintro ⟨⟨a, b, c⟩, d⟩
    exact ⟨⟨a, fun t h => d t (List.mem_append_left _ h)⟩, ⟨b, fun t h => d t (List.mem_append_right _ h)⟩, c⟩
  · rintro ⟨⟨a, b⟩, ⟨c, d⟩, e⟩
    refine ⟨⟨a, c, e⟩, fun t h => ?_⟩
    rcases List.mem_append.1 h with h | h
    · exact b t h
    · exact d t h
theorem canon_one (a b : Int) (h0 : 0 ≤ a) (h : a ≤ b) (h1 : b ≤ 4294967295) : Canon [(a, b)] := ⟨List.pairwise_singleton _ _, fun t ht => by
  rw [List.mem_singleton] at ht
  subst ht
  exact ⟨h0, h, h1⟩⟩
theorem canon_take {L : SL} (h : Canon L) (k : Nat) : Canon (L.take k) := ((canon_app _ _).1 (by rw [List.take_append_drop]; exact h)).1
theorem canon_drop {L : SL} (h : Canon L) (k : Nat) : Canon (L.drop k) := ((canon_app _ _).1 (by rw [List.take_append_drop k]; exact h)).2.1
theorem canon_cut {L : SL} (h : Canon L) (k : Nat) : ∀ s ∈ L.take k, ∀ t ∈ L.drop k, s.2 + 1 < t.1 := ((canon_app _ _).1 (by rw [List.take_append_drop k]; exact h)).2.2
/-- What a search by the ends tells. -/
theorem ends_take {L : SL} (h : Canon L) (k : Nat) (x : Int) (hk : k ≤ L.length) (h1 : k = 0 ∨ (L.getD (k - 1) (0, 0)).2 < x) : ∀ t ∈ L.take k, t.2 < x := by
  intro t ht
  rcases h1 with rfl | h1
  · simp at ht
  by_cases h0 : k = 0
  · subst h0; simp at ht
  obtain ⟨m, rfl⟩ : ∃ m, k = m + 1 := ⟨k - 1, by omega⟩
  have hm : m < L.length := by omega
  simp [List.getElem?_eq_getElem hm] at h1
  rw [List.take_succ_eq_append_getElem hm, List.mem_append, List.mem_singleton] at ht
  rcases ht with ht | rfl
  · have := canon_cut h m t ht L[m] (by rw [List.drop_eq_getElem_cons hm]; exact List.mem_cons_self)
    have := h.2 L[m] (List.getElem_mem hm)
    omega
  · exact h1
theorem ends_drop {L : SL} (h : Canon L) (k : Nat) (x : Int) (hk : k ≤ L.length) (h1 : k = L.length ∨ x ≤ (L.getD k (0, 0)).2) : ∀ t ∈ L.drop k, x ≤ t.2 := by
  intro t ht
  rcases h1 with rfl | h1
  · simp at ht
  by_cases h0 : k = L.length
  · subst h0; simp at ht
  have hm : k < L.length := by omega
  simp [List.getElem?_eq_getElem hm] at h1
  rw [List.drop_eq_getElem_cons hm, List.mem_cons] at ht
  rcases ht with rfl | ht
  · exact h1
  · have := canon_cut h (k + 1) L[k] (by rw [List.take_succ_eq_append_getElem hm]; exact List.mem_append_right _ (List.mem_singleton.2 rfl)) t ht
    have := h.2 t (List.mem_of_mem_drop ht)
    omega
theorem begins_take {L : SL} (h : Canon L) (k : Nat) (x : Int) (hk : k ≤ L.length) (h1 : k = 0 ∨ (L.getD (k - 1) (0, 0)).1 ≤ x) : ∀ t ∈ L.take k, t.1 ≤ x := by
  intro t ht
  rcases h1 with rfl | h1
  · simp at ht
  by_cases h0 : k = 0
  · subst h0; simp at ht
  obtain ⟨m, rfl⟩ : ∃ m, k = m + 1 := ⟨k - 1, by omega⟩
  have hm : m < L.length := by omega
  simp [List.getElem?_eq_getElem hm] at h1
  rw [List.take_succ_eq_append_getElem hm, List.mem_append, List.mem_singleton] at ht
  rcases ht with ht | rfl
  · have := canon_cut h m t ht L[m] (by rw [List.drop_eq_getElem_cons hm]; exact List.mem_cons_self)
    have := h.2 t (List.mem_of_mem_take ht)
    omega
  · exact h1
theorem begins_drop {L : SL} (h : Canon L) (k : Nat) (x : Int) (hk : k ≤ L.length) (h1 : k = L.length ∨ x < (L.getD k (0, 0)).1) : ∀ t ∈ L.drop k, x < t.1 := by
  intro t ht
  rcases h1 with rfl | h1
  · simp at ht
  by_cases h0 : k = L.length
  · subst h0; simp at ht
  have hm : k < L.length := by omega
  simp [List.getElem?_eq_getElem hm] at h1
  rw [List.drop_eq_getElem_cons hm, List.mem_cons] at ht
  rcases ht with rfl | ht
  · exact h1
  · have := canon_cut h (k + 1) L[k] (by rw [List.take_succ_eq_append_getElem hm]; exact List.mem_append_right _ (List.mem_singleton.2 rfl)) t ht
    have := h.2 L[k] (List.getElem_mem hm)
    omega
/-- A span and those that it takes in. -/
def grow (s t : Int × Int) : Int × Int := (min s.1 t.1, max s.2 t.2)
theorem fold_mem (X : SL) (s : Int × Int) (h : s.1 ≤ s.2) (hx : ∀ t ∈ X, t.1 ≤ t.2 ∧ s.1 ≤ t.2 + 1 ∧ t.1 ≤ s.2 + 1) :
    (X.foldl grow s).1 ≤ s.1 ∧ s.2 ≤ (X.foldl grow s).2 ∧ (∀ n, ((X.foldl grow s).1 ≤ n ∧ n ≤ (X.foldl grow s).2) ↔ (s.1 ≤ n ∧ n ≤ s.2) ∨ mem X n) ∧ ((X.foldl grow s).1 = s.1 ∨ ∃ t ∈ X, (X.foldl grow s).1 = t.1) ∧ ((X.foldl grow s).2 = s.2 ∨ ∃ t ∈ X, (X.foldl grow s).2 = t.2) := by
  induction X generalizing s with
  | nil => exact ⟨Int.le_refl _, Int.le_refl _, fun n => by simp [mem_nil], .inl rfl, .inl rfl⟩
  | cons t X ih =>
    obtain ⟨t1, t2, t3⟩ := hx t List.mem_cons_self
    have g1 : (grow s t).1 ≤ s.1 := by simp only [grow]; omega
    have g2 : s.2 ≤ (grow s t).2 := by simp only [grow]; omega
    obtain ⟨a, b, c, d, e⟩ := ih (grow s t) (by omega) (fun u hu => by
      obtain ⟨u1, u2, u3⟩ := hx u (List.mem_cons_of_mem _ hu)
      omega)
    rw [List.foldl_cons]
    refine ⟨by omega, by omega, fun n => ?_, ?_, ?_⟩
    · rw [c, mem_cons, ← or_assoc]
      refine or_congr ?_ Iff.rfl
      simp only [grow]
      omega
    · rcases d with d | ⟨u, hu, d⟩
      · simp only [grow] at d ⊢
        by_cases hh : s.1 ≤ t.1
        · exact .inl (by omega)
        · exact .inr ⟨t, List.mem_cons_self, by omega⟩
      · exact .inr ⟨u, List.mem_cons_of_mem _ hu, d⟩
    · rcases e with e | ⟨u, hu, e⟩
      · simp only [grow] at e ⊢
        by_cases hh : t.2 ≤ s.2
        · exact .inl (by omega)
        · exact .inr ⟨t, List.mem_cons_self, by omega⟩
      · exact .inr ⟨u, List.mem_cons_of_mem _ hu, e⟩
/-- The spans between two places. -/
def mid (L : SL) (i k : Nat) : SL := (L.drop i).take (k - i)
theorem cut3 (L : SL) (i k : Nat) (h : i ≤ k) : L = L.take i ++ mid L i k ++ L.drop k := by
  have : mid L i k ++ L.drop k = L.drop i := by
    unfold mid
    have e := List.take_append_drop (k - i) (L.drop i)
    rw [List.drop_drop, show i + (k - i) = k by omega] at e
    exact e
  rw [List.append_assoc, this, List.take_append_drop]
def addL (L : SL) (a b : Int) (i k : Nat) : SL := L.take i ++ [(mid L i k).foldl grow (a, b)] ++ L.drop k
theorem add_math (L : SL) (a b : Int) (i k : Nat) (hc : Canon L) (h0 : 0 ≤ a) (hab : a ≤ b) (hb : b ≤ 4294967295) (hik : i ≤ k)
    (hp : ∀ t ∈ L.take i, t.2 < less1 a) (hp2 : ∀ t ∈ L.drop i, less1 a ≤ t.2) (hs : ∀ t ∈ L.take k, t.1 ≤ more1 b) (hs2 : ∀ t ∈ L.drop k, more1 b < t.1) :
    Canon (addL L a b i k) ∧ ∀ n, mem (addL L a b i k) n ↔ mem L n ∨ (a ≤ n ∧ n ≤ b) := by
  have hcut := cut3 L i k hik
  have hX1 : ∀ t ∈ mid L i k, t ∈ L.drop i := fun t ht => List.mem_of_mem_take ht
  have hX2 : ∀ t ∈ mid L i k, t ∈ L.take k := fun t ht => by
    have e : mid L i k = (L.take k).drop i := by unfold mid; rw [List.drop_take]
    rw [e] at ht
    exact List.mem_of_mem_drop ht
  rw [hcut] at hc
  obtain ⟨hc1, hcS, hc3⟩ := (canon_app _ _).1 hc
  obtain ⟨hcP, hcX, hc4⟩ := (canon_app _ _).1 hc1
  obtain ⟨w1, w2, w3, w4, w5⟩ := fold_mem (mid L i k) (a, b) hab (fun t ht => by
    have u1 := hp2 t (hX1 t ht)
    have u2 := hs t (hX2 t ht)
    have u3 := hcX.2 t ht
    simp only [less1] at u1
    simp only [more1] at u2
    split at u1 <;> split at u2 <;> simp only <;> omega)
  generalize hW : (mid L i k).foldl grow (a, b) = W at w1 w2 w3 w4 w5
  simp only at w1 w2 w3 w4 w5
  have eA : addL L a b i k = L.take i ++ [W] ++ L.drop k := by rw [← hW]; rfl
  have hP : ∀ s ∈ L.take i, s.2 + 1 < W.1 := fun s hs' => by
    rcases w4 with h | ⟨t, ht, h⟩
    · have u1 := hp s hs'
      have u2 := hcP.2 s hs'
      simp only [less1] at u1
      split at u1 <;> omega
    · have := hc4 s hs' t ht
      omega
  have hS : ∀ t ∈ L.drop k, W.2 + 1 < t.1 := fun s hs' => by
    rcases w5 with h | ⟨t, ht, h⟩
    · have u1 := hs2 s hs'
      have u2 := hcS.2 s hs'
      simp only [more1] at u1
      split at u1 <;> omega
    · have := hc3 t (List.mem_append_right _ ht) s hs'
      omega
  have hW0 : 0 ≤ W.1 := by
    rcases w4 with h | ⟨t, ht, h⟩
    · omega
    · have := hcX.2 t ht; omega
  have hW1 : W.2 ≤ 4294967295 := by
    rcases w5 with h | ⟨t, ht, h⟩
    · omega
    · have := hcX.2 t ht; omega
  rw [eA]
  constructor
  · refine (canon_app _ _).2 ⟨(canon_app _ _).2 ⟨hcP, canon_one W.1 W.2 hW0 (by omega) hW1, fun s hs' t ht => ?_⟩, hcS, fun s hs' t ht => ?_⟩
    · rw [List.mem_singleton] at ht
      subst ht
      exact hP s hs'
    · rcases List.mem_append.1 hs' with h | h
      · have u1 := hP s h
        have u2 := hS t ht
        omega
      · rw [List.mem_singleton] at h
        subst h
        exact hS t ht
  · intro n
    have hl : mem L n ↔ mem (L.take i ++ mid L i k ++ L.drop k) n := by rw [← hcut]
    rw [hl, mem_app, mem_app, mem_app, mem_app, mem_cons, w3]
    have := mem_nil n
    constructor
    · rintro ((h | (h | h) | h) | h)
      · exact .inl (.inl (.inl h))
      · exact .inr h
      · exact .inl (.inl (.inr h))
      · exact absurd h this
      · exact .inl (.inr h)
    · rintro (((h | h) | h) | h)
      · exact .inl (.inl h)
      · exact .inl (.inr (.inl (.inr h)))
      · exact .inr h
      · exact .inl (.inr (.inl (.inl h)))
theorem less1_le (a : Int) : less1 a ≤ a := by unfold less1; split <;> omega
theorem le_more1 (b : Int) : b ≤ more1 b := by unfold more1; split <;> omega
/-- Whoever ends ahead of the one begins ahead of the other. -/
theorem places {L : SL} (hc : Canon L) (x y : Int) (i k : Nat) (hi : i ≤ L.length) (hxy : x ≤ y) (hp : ∀ t ∈ L.take i, t.2 < x) (hs2 : ∀ t ∈ L.drop k, y < t.1) : i ≤ k := by
  rcases Nat.lt_or_ge k i with h | h
  · have hk : k < L.length := by omega
    have u1 := hp L[k] (by rw [List.mem_take_iff_getElem]; exact ⟨k, by omega, rfl⟩)
    have u2 := hs2 L[k] (by rw [List.drop_eq_getElem_cons hk]; exact List.mem_cons_self)
    have u3 := hc.2 L[k] (List.getElem_mem hk)
    omega
  · exact h
/-- What is left of a span. -/
def rest1 (a b : Int) (t : Int × Int) : SL := (if t.1 < a then [(t.1, a - 1)] else []) ++ (if b < t.2 then [(b + 1, t.2)] else [])
def rest (a b : Int) (X : SL) : SL := X.flatMap (rest1 a b)
theorem rest_cons (a b : Int) (t : Int × Int) (X : SL) : rest a b (t :: X) = rest1 a b t ++ rest a b X := by simp [rest]
theorem rest_app (a b : Int) (X Y : SL) : rest a b (X ++ Y) = rest a b X ++ rest a b Y := by simp [rest]
theorem rest1_in (a b : Int) (t u : Int × Int) (_ : t.1 ≤ t.2) (h1 : a ≤ t.2) (h2 : t.1 ≤ b) (hu : u ∈ rest1 a b t) : t.1 ≤ u.1 ∧ u.1 ≤ u.2 ∧ u.2 ≤ t.2 := by
  simp only [rest1, List.mem_append] at hu
  rcases hu with hu | hu
  · split at hu
    · rw [List.mem_singleton] at hu
      subst hu
      simp only
      omega
    · cases hu
  · split at hu
    · rw [List.mem_singleton] at hu
      subst hu
      simp only
      omega
    · cases hu
theorem rest1_mem (a b : Int) (t : Int × Int) (n : Int) (h1 : a ≤ t.2) (h2 : t.1 ≤ b) (hab : a ≤ b) : mem (rest1 a b t) n ↔ (t.1 ≤ n ∧ n ≤ t.2) ∧ ¬ (a ≤ n ∧ n ≤ b) := by
  have h0 := mem_nil n
  unfold rest1
  rw [mem_app]
  by_cases c1 : t.1 < a <;> by_cases c2 : b < t.2 <;> simp only [c1, c2, if_true, if_false, mem_cons, h0, or_false, false_or, false_iff] <;> omega
theorem rest_canon (a b : Int) (X : SL) (hc : Canon X) (hab : a ≤ b) (_h0 : 0 ≤ a) (_hb : b ≤ 4294967295) (h1 : ∀ t ∈ X, a ≤ t.2 ∧ t.1 ≤ b) : Canon (rest a b X) := by
  constructor
  · unfold rest
    rw [List.pairwise_flatMap]
    constructor
    · intro t ht
      unfold rest1
      by_cases c1 : t.1 < a <;> by_cases c2 : b < t.2 <;> simp [c1, c2]
      omega
    · refine hc.1.imp_of_mem (fun {s t} hs ht h x hx y hy => ?_)
      have u1 := rest1_in a b s x (hc.2 s hs).2.1 (h1 s hs).1 (h1 s hs).2 hx
      have u2 := rest1_in a b t y (hc.2 t ht).2.1 (h1 t ht).1 (h1 t ht).2 hy
      omega
  · intro u hu
    unfold rest at hu
    rw [List.mem_flatMap] at hu
    obtain ⟨t, ht, hu⟩ := hu
    have u1 := rest1_in a b t u (hc.2 t ht).2.1 (h1 t ht).1 (h1 t ht).2 hu
    have := hc.2 t ht
    omega
theorem rest_mem (a b : Int) (X : SL) (n : Int) (hab : a ≤ b) (h1 : ∀ t ∈ X, a ≤ t.2 ∧ t.1 ≤ b) : mem (rest a b X) n ↔ mem X n ∧ ¬ (a ≤ n ∧ n ≤ b) := by
  induction X with
  | nil => simp [rest, mem_nil]
  | cons t X ih =>
    rw [rest_cons, mem_app, mem_cons, ih (fun u hu => h1 u (List.mem_cons_of_mem _ hu)), rest1_mem a b t n (h1 t List.mem_cons_self).1 (h1 t List.mem_cons_self).2 hab, or_and_right]
theorem rest_len1 (a b : Int) (X : SL) (hc : Canon X) (h1 : ∀ t ∈ X, a ≤ t.1 ∧ t.1 ≤ b) : (rest a b X).length ≤ 1 := by
  induction X with
  | nil => simp [rest]
  | cons t X ih =>
    have hX : Canon X := canon_drop hc 1
    have hx := fun u hu => canon_cut hc 1 t (by simp) u (by simpa using hu)
    obtain ⟨t1, t2⟩ := h1 t List.mem_cons_self
    rw [rest_cons]
    cases X with
    | nil => simp only [rest, List.flatMap_nil, List.append_nil, rest1]; rw [if_neg (by omega)]; split <;> simp
    | cons u X =>
      have u1 := hx u List.mem_cons_self
      have u2 := h1 u (by simp)
      have : rest1 a b t = [] := by unfold rest1; rw [if_neg (by omega), if_neg (by omega)]; rfl
      rw [this]
      exact ih hX (fun v hv => h1 v (List.mem_cons_of_mem _ hv))
theorem rest_len (a b : Int) (X : SL) (hc : Canon X) (h1 : ∀ t ∈ X, a ≤ t.2 ∧ t.1 ≤ b) : (rest a b X).length ≤ 2 := by
  cases X with
  | nil => simp [rest]
  | cons t X =>
    have hX : Canon X := canon_drop hc 1
    have hx := fun u hu => canon_cut hc 1 t (by simp) u (by simpa using hu)
    obtain ⟨t1, t2⟩ := h1 t List.mem_cons_self
    have h2 := rest_len1 a b X hX (fun u hu => ⟨by have := hx u hu; omega, (h1 u (List.mem_cons_of_mem _ hu)).2⟩)
    rw [rest_cons, List.length_append]
    cases X with
    | nil => simp only [rest, List.flatMap_nil, List.length_nil, rest1]; split <;> split <;> simp
    | cons u X =>
      have u1 := hx u List.mem_cons_self
      have u2 := h1 u (by simp)
      have : (rest1 a b t).length ≤ 1 := by unfold rest1; rw [if_neg (by omega : ¬ b < t.2)]; split <;> simp
      omega
def dropL (L : SL) (a b : Int) (i k : Nat) : SL := L.take i ++ rest a b (mid L i k) ++ L.drop k
theorem drop_math (L : SL) (a b : Int) (i k : Nat) (hc : Canon L) (h0 : 0 ≤ a) (hab : a ≤ b) (hb : b ≤ 4294967295) (hik : i ≤ k)
    (hp : ∀ t ∈ L.take i, t.2 < a) (hp2 : ∀ t ∈ L.drop i, a ≤ t.2) (hs : ∀ t ∈ L.take k, t.1 ≤ b) (hs2 : ∀ t ∈ L.drop k, b < t.1) :
    Canon (dropL L a b i k) ∧ (rest a b (mid L i k)).length ≤ 2 ∧ ∀ n, mem (dropL L a b i k) n ↔ mem L n ∧ ¬ (a ≤ n ∧ n ≤ b) := by
  have hcut := cut3 L i k hik
  have hX1 : ∀ t ∈ mid L i k, t ∈ L.drop i := fun t ht => List.mem_of_mem_take ht
  have hX2 : ∀ t ∈ mid L i k, t ∈ L.take k := fun t ht => by
    have e : mid L i k = (L.take k).drop i := by unfold mid; rw [List.drop_take]
    rw [e] at ht
    exact List.mem_of_mem_drop ht
  have hX : ∀ t ∈ mid L i k, a ≤ t.2 ∧ t.1 ≤ b := fun t ht => ⟨hp2 t (hX1 t ht), hs t (hX2 t ht)⟩
  rw [hcut] at hc
  obtain ⟨hc1, hcS, hc3⟩ := (canon_app _ _).1 hc
  obtain ⟨hcP, hcX, hc4⟩ := (canon_app _ _).1 hc1
  have hR : ∀ u ∈ rest a b (mid L i k), ∃ t ∈ mid L i k, t.1 ≤ u.1 ∧ u.1 ≤ u.2 ∧ u.2 ≤ t.2 := fun u hu => by
    unfold rest at hu
    rw [List.mem_flatMap] at hu
    obtain ⟨t, ht, hu⟩ := hu
    exact ⟨t, ht, rest1_in a b t u (hcX.2 t ht).2.1 (hX t ht).1 (hX t ht).2 hu⟩
  refine ⟨?_, rest_len a b _ hcX hX, fun n => ?_⟩
  · refine (canon_app _ _).2 ⟨(canon_app _ _).2 ⟨hcP, rest_canon a b _ hcX hab h0 hb hX, fun s hs' u hu => ?_⟩, hcS, fun s hs' t ht => ?_⟩
    · obtain ⟨t, ht, _⟩ := hR u hu
      have := hc4 s hs' t ht
      omega
    · rcases List.mem_append.1 hs' with h | h
      · exact hc3 s (List.mem_append_left _ h) t ht
      · obtain ⟨u, hu, _⟩ := hR s h
        have := hc3 u (List.mem_append_right _ hu) t ht
        omega
  · have hl : mem L n ↔ mem (L.take i ++ mid L i k ++ L.drop k) n := by rw [← hcut]
    rw [hl]
    unfold dropL
    rw [mem_app, mem_app, mem_app, mem_app, rest_mem a b _ n hab hX]
    have e1 : mem (L.take i) n → ¬ (a ≤ n ∧ n ≤ b) := by
      rintro ⟨t, ht, h⟩
      have := hp t ht
      omega
    have e2 : mem (L.drop k) n → ¬ (a ≤ n ∧ n ≤ b) := by
      rintro ⟨t, ht, h⟩
      have := hs2 t ht
      omega
    constructor
    · rintro ((h | h) | h)
      · exact ⟨.inl (.inl h), e1 h⟩
      · exact ⟨.inl (.inr h.1), h.2⟩
      · exact ⟨.inr h, e2 h⟩
    · rintro ⟨(h | h) | h, h2⟩
      · exact .inl (.inl h)
      · exact .inl (.inr ⟨h, h2⟩)
      · exact .inr h
end Go.Proofs.Ytgbhdccadelcfaa.Sp
