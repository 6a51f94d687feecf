/- index: the mathematics of pages: where a key stands. -/
import Derived.Test.YthjcohaldjfniaaB1
namespace Go.Proofs.Ythjcohaldjfniaa.Ix
open Go Go.RowKit
open Pq (Pg pv fq)
open It (fl)
abbrev IL := List (Int × Int)
def cont (X : List Pg) : IL := X.flatMap Pg.P
def Sorted (L : IL) : Prop := L.Pairwise fun a b => a.1 < b.1
structure Fit (X : List Pg) : Prop where
  one : ∀ t ∈ X, 1 ≤ t.P.length ∧ t.P.length ≤ 8
  two : 1 < X.length → ∀ t ∈ X, 2 ≤ t.P.length
  up : Sorted (cont X)
theorem cont_app (X Y : List Pg) : cont (X ++ Y) = cont X ++ cont Y := by simp [cont]
theorem cont_cons (t : Pg) (Y : List Pg) : cont (t :: Y) = t.P ++ cont Y := by simp [cont]
theorem split_at {X : List Pg} {i : Nat} {t : Pg} (h : X[i]? = some t) : X = X.take i ++ t :: X.drop (i + 1) := by
  obtain ⟨hi, e⟩ := List.getElem?_eq_some_iff.1 h
  rw [← e, List.getElem_cons_drop, List.take_append_drop]
theorem cont_split {X : List Pg} {i : Nat} {t : Pg} (h : X[i]? = some t) : cont X = cont (X.take i) ++ (t.P ++ cont (X.drop (i + 1))) := by
  conv => lhs; rw [split_at h]
  rw [cont_app, cont_cons]
theorem sorted_get {L : IL} (h : Sorted L) {i j : Nat} (hij : i < j) (hj : j < L.length) : (L.getD i (0, 0)).1 < (L.getD j (0, 0)).1 := by
  have := List.pairwise_iff_getElem.1 h i j (by omega) hj hij
  simpa [List.getElem?_eq_getElem (show i < L.length by omega), List.getElem?_eq_getElem hj] using this
theorem sorted_le {L : IL} (h : Sorted L) {i j : Nat} (hij : i ≤ j) (hj : j < L.length) : (L.getD i (0, 0)).1 ≤ (L.getD j (0, 0)).1 := by
  rcases Nat.lt_or_ge i j with hl | hl
  · exact Int.le_of_lt (sorted_get h hl hj)
  · obtain rfl : i = j := by omega
    exact Int.le_refl _
theorem mem_take_get {L : IL} {n : Nat} {e : Int × Int} (h : e ∈ L.take n) : ∃ j, j < n ∧ j < L.length ∧ e = L.getD j (0, 0) := by
  obtain ⟨j, hj, rfl⟩ := List.mem_iff_getElem.1 h
  simp only [List.length_take] at hj
  exact ⟨j, by omega, by omega, by simp [List.getElem?_eq_getElem (show j < L.length by omega)]⟩
theorem mem_drop_get {L : IL} {n : Nat} {e : Int × Int} (h : e ∈ L.drop n) : ∃ j, n ≤ j ∧ j < L.length ∧ e = L.getD j (0, 0) := by
  obtain ⟨j, hj, rfl⟩ := List.mem_iff_getElem.1 h
  simp only [List.length_drop] at hj
  exact ⟨n + j, by omega, by omega, by simp [List.getElem?_eq_getElem (show n + j < L.length by omega)]⟩
def FindR (X : List Pg) (k : Int) (pg at_ : Nat) (ok : Bool) : Prop :=
  ∃ t, X[pg]? = some t ∧ at_ ≤ t.P.length ∧ (∀ e ∈ cont (X.take pg) ++ t.P.take at_, e.1 < k) ∧ (∀ e ∈ t.P.drop at_ ++ cont (X.drop (pg + 1)), k ≤ e.1) ∧ (ok = true → ∃ u, t.P[at_]? = some (k, u)) ∧ (ok = false → ∀ e ∈ t.P.drop at_ ++ cont (X.drop (pg + 1)), k < e.1)
def fst (X : List Pg) (i : Nat) : Int := ((X.getD i default).P.getD 0 (0, 0)).1
theorem sorted_app {A B : IL} (h : Sorted (A ++ B)) : Sorted A ∧ Sorted B ∧ ∀ a ∈ A, ∀ b ∈ B, a.1 < b.1 := List.pairwise_append.1 h
theorem first_mem {P : IL} (h : 0 < P.length) : P.getD 0 (0, 0) ∈ P := by
  cases P with
  | nil => simp at h
  | cons a P => simp
theorem first_le {P : IL} (hs : Sorted P) {e : Int × Int} (he : e ∈ P) : (P.getD 0 (0, 0)).1 ≤ e.1 := by
  obtain ⟨j, _, hj, rfl⟩ := mem_drop_get (n := 0) (by simpa using he)
  exact sorted_le hs (by omega) hj
theorem find_math {X : List Pg} (hf : Fit X) (k : Int) (ab : Nat) (h0 : 0 < X.length) (hab : ab ≤ X.length) (h1 : ab = 0 ∨ fst X (ab - 1) ≤ k) (h2 : ab = X.length ∨ k < fst X ab) (i : Nat) (ok : Bool) (t : Pg) (ht : X[ab - 1]? = some t) (hb : BinR t.P k i ok) : FindR X k (ab - 1) i ok := by
  have hs := hf.up
  rw [cont_split ht] at hs
  obtain ⟨s1, s2, s3⟩ := sorted_app hs
  obtain ⟨s4, s5, s6⟩ := sorted_app s2
  obtain ⟨b1, b2, b3, b4⟩ := hb
  have ht0 : 0 < t.P.length := by have := hf.one t (List.mem_of_getElem? ht); omega
  have hft : (X.getD (ab - 1) default) = t := by simp [ht]
  -- what is behind the page
  have late : ∀ e ∈ cont (X.drop (ab - 1 + 1)), k < e.1 := by
    intro e he
    rcases h1 with rfl | h1
    · have hk : k < fst X 0 := by rcases h2 with h | h; omega; exact h
      have := s6 (t.P.getD 0 (0, 0)) (first_mem ht0) e he
      simp only [fst] at hk
      rw [show X.getD 0 default = t from hft] at hk
      omega
    · rcases Nat.eq_zero_or_pos ab with rfl | hp
      · have hk : k < fst X 0 := by rcases h2 with h | h; omega; exact h
        have := s6 (t.P.getD 0 (0, 0)) (first_mem ht0) e he
        simp only [fst] at hk
        rw [show X.getD 0 default = t from hft] at hk
        omega
      · rw [show ab - 1 + 1 = ab by omega] at he s5
        rcases h2 with h2 | h2
        · subst h2
          simp [cont] at he
        · rcases Nat.lt_or_ge ab X.length with hl | hl
          · have h3 := getD_at X ab default hl
            rw [List.drop_eq_getElem_cons hl, cont_cons] at he s5
            have e3 : X[ab] = X.getD ab default := by simp [List.getElem?_eq_getElem hl]
            rw [e3] at he s5
            have p0 : 0 < (X.getD ab default).P.length := by have := hf.one _ (List.mem_of_getElem? h3); omega
            obtain ⟨q1, q2, q3⟩ := sorted_app s5
            simp only [fst] at h2
            rcases List.mem_append.1 he with he | he
            · have := first_le q1 he; omega
            · have := q3 _ (first_mem p0) e he; omega
          · rw [List.drop_eq_nil_of_le hl] at he
            simp [cont] at he
  have here : ∀ e ∈ t.P.drop i, k ≤ e.1 := by
    intro e he
    obtain ⟨j, hj1, hj2, rfl⟩ := mem_drop_get he
    rcases b3 with b3 | b3
    · omega
    · have := sorted_le s4 hj1 hj2; omega
  refine ⟨t, ht, b1, ?_, ?_, ?_, ?_⟩
  · intro e he
    rcases List.mem_append.1 he with he | he
    · have h3 := s3 e he _ (List.mem_append_left _ (first_mem ht0))
      rcases h1 with rfl | h1
      · simp [cont] at he
      · simp only [fst] at h1
        rw [hft] at h1
        omega
    · obtain ⟨j, hj1, hj2, rfl⟩ := mem_take_get he
      rcases b2 with b2 | b2
      · omega
      · have := sorted_le s4 (show j ≤ i - 1 by omega) (by omega); omega
  · intro e he
    rcases List.mem_append.1 he with he | he
    · exact here e he
    · exact Int.le_of_lt (late e he)
  · intro e
    rw [e] at b4
    have b5 := b4.symm
    simp only [Bool.and_eq_true, decide_eq_true_eq] at b5
    have h3 := getD_at t.P i (0, 0) b5.1
    exact ⟨(t.P.getD i (0, 0)).2, by rw [h3, ← b5.2]⟩
  · intro e0 e he
    rcases List.mem_append.1 he with he | he
    · obtain ⟨j, hj1, hj2, rfl⟩ := mem_drop_get he
      rcases b3 with b3 | b3
      · omega
      · have h3 := sorted_le s4 hj1 hj2
        rw [e0] at b4
        have b5 := b4.symm
        simp only [Bool.and_eq_false_iff, decide_eq_false_iff_not] at b5
        rcases b5 with b5 | b5
        · omega
        · omega
    · exact late e he
end Go.Proofs.Ythjcohaldjfniaa.Ix
