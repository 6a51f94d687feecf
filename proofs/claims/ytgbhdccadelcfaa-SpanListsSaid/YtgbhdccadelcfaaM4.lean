/- span: the document's edges and spans: their mathematics. -/
import Derived.Test.YtgbhdccadelcfaaR3
namespace Go.Proofs.Ytgbhdccadelcfaa.Sp
open Go Go.RowKit
def Good (l : List Int) : Prop := l.Pairwise (· < ·) ∧ ∀ y ∈ l, 0 ≤ y ∧ y ≤ 4294967295
theorem good_ins {l : List Int} (h : Good l) (n : Int) (h0 : 0 ≤ n) (h1 : n ≤ 4294967295) : Good (ins l n) := ⟨ins_rises l n h.1, fun y hy => by
  rcases (ins_mem l n y).1 hy with hy | rfl
  · exact h.2 y hy
  · exact ⟨h0, h1⟩⟩
theorem edge1_ok (l : List Int) (d : Int × Int × Bool) (hd : 0 ≤ d.1 ∧ d.1 ≤ d.2.1 ∧ d.2.1 ≤ 4294967295) (h : Good l) : Good (edge1 l d) ∧ (∀ y ∈ l, y ∈ edge1 l d) ∧ d.1 ∈ edge1 l d ∧ (d.2.1 ≠ 4294967295 → d.2.1 + 1 ∈ edge1 l d) := by
  obtain ⟨a, b, c⟩ := hd
  have g1 := good_ins h d.1 a (by omega)
  unfold edge1
  split
  · rename_i hh
    exact ⟨g1, fun y hy => (ins_mem _ _ _).2 (.inl hy), (ins_mem _ _ _).2 (.inr rfl), fun h2 => absurd hh h2⟩
  · rename_i hh
    exact ⟨good_ins g1 _ (by omega) (by omega), fun y hy => (ins_mem _ _ _).2 (.inl ((ins_mem _ _ _).2 (.inl hy))), (ins_mem _ _ _).2 (.inl ((ins_mem _ _ _).2 (.inr rfl))), fun _ => (ins_mem _ _ _).2 (.inr rfl)⟩
theorem edgeD_ok (D : DL) (l : List Int) (hD : InD D) (h : Good l) : Good (D.foldl edge1 l) ∧ (∀ y ∈ l, y ∈ D.foldl edge1 l) ∧ ∀ d ∈ D, d.1 ∈ D.foldl edge1 l ∧ (d.2.1 ≠ 4294967295 → d.2.1 + 1 ∈ D.foldl edge1 l) := by
  induction D generalizing l with
  | nil => exact ⟨h, fun y hy => hy, fun d hd => by cases hd⟩
  | cons d D ih =>
    obtain ⟨a1, a2, a3, a4⟩ := edge1_ok l d (hD d List.mem_cons_self) h
    obtain ⟨b1, b2, b3⟩ := ih (edge1 l d) (fun e he => hD e (List.mem_cons_of_mem _ he)) a1
    refine ⟨b1, fun y hy => b2 y (a2 y hy), fun e he => ?_⟩
    rcases List.mem_cons.1 he with rfl | he
    · exact ⟨b2 _ a3, fun h2 => b2 _ (a4 h2)⟩
    · exact b3 e he
theorem edgesF_ok (Ps : List (Nat × DL)) (l : List Int) (hD : ∀ q ∈ Ps, InD q.2) (h : Good l) :
    Good (Ps.foldl (fun l q => q.2.foldl edge1 l) l) ∧ (∀ y ∈ l, y ∈ Ps.foldl (fun l q => q.2.foldl edge1 l) l) ∧ ∀ q ∈ Ps, ∀ d ∈ q.2, d.1 ∈ Ps.foldl (fun l q => q.2.foldl edge1 l) l ∧ (d.2.1 ≠ 4294967295 → d.2.1 + 1 ∈ Ps.foldl (fun l q => q.2.foldl edge1 l) l) := by
  induction Ps generalizing l with
  | nil => exact ⟨h, fun y hy => hy, fun d hd => by cases hd⟩
  | cons q Ps ih =>
    obtain ⟨a1, a2, a3⟩ := edgeD_ok q.2 l (hD q List.mem_cons_self) h
    obtain ⟨b1, b2, b3⟩ := ih (q.2.foldl edge1 l) (fun e he => hD e (List.mem_cons_of_mem _ he)) a1
    refine ⟨b1, fun y hy => b2 y (a2 y hy), fun e he d hd => ?_⟩
    rcases List.mem_cons.1 he with rfl | he
    · exact ⟨b2 _ (a3 d hd).1, fun h2 => b2 _ ((a3 d hd).2 h2)⟩
    · exact b3 e he d hd
/-- What the edges are. -/
structure EdOk (Ps : List (Nat × DL)) (E : List Int) : Prop where
  good : Good E
  zero : 0 ∈ E
  ends : ∀ q ∈ Ps, ∀ d ∈ q.2, d.1 ∈ E ∧ (d.2.1 ≠ 4294967295 → d.2.1 + 1 ∈ E)
theorem edges_ok (Ps : List (Nat × DL)) (hD : ∀ q ∈ Ps, InD q.2) : EdOk Ps (edgesL Ps) := by
  have h0 : Good [0] := ⟨List.pairwise_singleton _ _, fun y hy => by
    rw [List.mem_singleton] at hy
    subst hy
    omega⟩
  obtain ⟨a, b, c⟩ := edgesF_ok Ps [0] hD h0
  exact ⟨a, b 0 (by simp), c⟩
def beta (E : List Int) (i : Nat) : Int := E[i]?.getD 4294967296
theorem beta_at {E : List Int} {i : Nat} {x : Int} (h : E[i]? = some x) : beta E i = x := by simp [beta, h]
theorem beta_next {Ps : List (Nat × DL)} {E : List Int} (h : EdOk Ps E) {i : Nat} {x : Int} (hx : E[i]? = some x) : x < beta E (i + 1) ∧ beta E (i + 1) ≤ 4294967296 := by
  unfold beta
  cases hy : E[i + 1]? with
  | none =>
    have := h.good.2 x (List.mem_of_getElem? hx)
    simp only [Option.getD_none]
    omega
  | some y =>
    have := h.good.2 y (List.mem_of_getElem? hy)
    obtain ⟨hi, e1⟩ := List.getElem?_eq_some_iff.1 hx
    obtain ⟨hj, e2⟩ := List.getElem?_eq_some_iff.1 hy
    have := List.pairwise_iff_getElem.1 h.good.1 i (i + 1) hi hj (by omega)
    simp only [Option.getD_some]
    omega
theorem beta_gap {Ps : List (Nat × DL)} {E : List Int} (h : EdOk Ps E) {i : Nat} {x y : Int} (hx : E[i]? = some x) (hy : y ∈ E) (h1 : x < y) : beta E (i + 1) ≤ y := by
  obtain ⟨j, hj, rfl⟩ := List.getElem_of_mem hy
  obtain ⟨hi, e1⟩ := List.getElem?_eq_some_iff.1 hx
  have hij : i < j := by
    rcases Nat.lt_trichotomy i j with hh | hh | hh
    · exact hh
    · subst hh; omega
    · have := List.pairwise_iff_getElem.1 h.good.1 j i hj hi hh
      omega
  have hn : i + 1 < E.length := by omega
  rw [beta_at (List.getElem?_eq_getElem hn)]
  by_cases he : i + 1 = j
  · subst he; exact Int.le_refl _
  · have := List.pairwise_iff_getElem.1 h.good.1 (i + 1) j hn hj (by omega)
    omega
theorem beta_zero {Ps : List (Nat × DL)} {E : List Int} (h : EdOk Ps E) : beta E 0 = 0 := by
  obtain ⟨j, hj, e⟩ := List.getElem_of_mem h.zero
  have h0 : 0 < E.length := by omega
  rw [beta_at (List.getElem?_eq_getElem h0)]
  by_cases hz : j = 0
  · subst hz; exact e
  · have h1 := List.pairwise_iff_getElem.1 h.good.1 0 j h0 hj (by omega)
    have h2 := h.good.2 _ (List.getElem_mem h0)
    omega
def allD (Ps : List (Nat × DL)) (n : Int) : Bool := Ps.all fun q => hasD q.2 n
theorem hasD_cong (D : DL) (n m : Int) (h : ∀ d ∈ D, (d.1 ≤ n ∧ n ≤ d.2.1) ↔ (d.1 ≤ m ∧ m ≤ d.2.1)) : hasD D n = hasD D m := by
  unfold hasD
  generalize false = b
  induction D generalizing b with
  | nil => rfl
  | cons d D ih =>
    simp only [List.foldl_cons]
    have hd := h d List.mem_cons_self
    rw [show (if d.1 ≤ n ∧ n ≤ d.2.1 then d.2.2 else b) = (if d.1 ≤ m ∧ m ≤ d.2.1 then d.2.2 else b) by
      by_cases hh : d.1 ≤ n ∧ n ≤ d.2.1
      · rw [if_pos hh, if_pos (hd.1 hh)]
      · rw [if_neg hh, if_neg (fun h2 => hh (hd.2 h2))]]
    exact ih (fun e he => h e (List.mem_cons_of_mem _ he)) _
theorem allD_const {Ps : List (Nat × DL)} {E : List Int} (h : EdOk Ps E) {i : Nat} {x n : Int} (hx : E[i]? = some x) (h1 : x ≤ n) (h2 : n < beta E (i + 1)) : allD Ps n = allD Ps x := by
  have hb := beta_next h hx
  unfold allD
  rw [Bool.eq_iff_iff, List.all_eq_true, List.all_eq_true]
  have key : ∀ q ∈ Ps, hasD q.2 n = hasD q.2 x := fun q hq => hasD_cong q.2 n x (fun d hd => by
    obtain ⟨k1, k2⟩ := h.ends q hq d hd
    constructor
    · rintro ⟨a, b⟩
      refine ⟨?_, by omega⟩
      rcases Int.lt_or_le x d.1 with hh | hh
      · have := beta_gap h hx k1 hh; omega
      · exact hh
    · rintro ⟨a, b⟩
      refine ⟨by omega, ?_⟩
      rcases Int.lt_or_le d.2.1 n with hh | hh
      · have := beta_gap h hx (k2 (by omega)) (by omega); omega
      · exact hh)
  constructor
  · intro hh q hq
    rw [← key q hq]; exact hh q hq
  · intro hh q hq
    rw [key q hq]; exact hh q hq
/-- The spans found so far. -/
structure SpM (Ps : List (Nat × DL)) (E : List Int) (i : Nat) (R : SL) : Prop where
  can : Canon R
  hi : ∀ t ∈ R, t.2 < beta E i
  mem : ∀ n, 0 ≤ n → n < beta E i → (mem R n ↔ allD Ps n = true)
  len : R.length ≤ i
theorem sp_start {Ps : List (Nat × DL)} {E : List Int} (h : EdOk Ps E) : SpM Ps E 0 [] := ⟨canon_nil, (fun t ht => by cases ht), (fun n h0 h1 => by rw [beta_zero h] at h1; omega), Nat.le_refl _⟩
theorem mem_lt {R : SL} {b n : Int} (h : ∀ t ∈ R, t.2 < b) (hm : mem R n) : n < b := by
  obtain ⟨t, ht, h1, h2⟩ := hm
  have := h t ht
  omega
theorem sp_skip {Ps : List (Nat × DL)} {E : List Int} {i : Nat} {R : SL} {x : Int} (h : EdOk Ps E) (hs : SpM Ps E i R) (hx : E[i]? = some x) (hf : allD Ps x = false) : SpM Ps E (i + 1) R := by
  have hb := beta_next h hx
  have e := beta_at hx
  refine ⟨hs.can, fun t ht => by have := hs.hi t ht; omega, fun n h0 h1 => ?_, by have := hs.len; omega⟩
  rcases Int.lt_or_le n x with hh | hh
  · exact hs.mem n h0 (by omega)
  · rw [allD_const h hx hh h1, hf]
    constructor
    · intro hm
      have := mem_lt hs.hi hm
      omega
    · intro hh2; cases hh2
theorem sp_more {Ps : List (Nat × DL)} {E : List Int} {i : Nat} {R : SL} {x : Int} (h : EdOk Ps E) (hs : SpM Ps E i R) (hx : E[i]? = some x) (hf : allD Ps x = true) (hg : ∀ t ∈ R, t.2 + 1 < x) : SpM Ps E (i + 1) (R ++ [(x, beta E (i + 1) - 1)]) := by
  have hb := beta_next h hx
  have e := beta_at hx
  have x0 := h.good.2 x (List.mem_of_getElem? hx)
  refine ⟨(canon_app _ _).2 ⟨hs.can, canon_one _ _ x0.1 (by omega) (by omega), fun s hs' t ht => ?_⟩, fun t ht => ?_, fun n h0 h1 => ?_, by rw [List.length_append]; have := hs.len; simp only [List.length_singleton]; omega⟩
  · rw [List.mem_singleton] at ht
    subst ht
    exact hg s hs'
  · rcases List.mem_append.1 ht with ht | ht
    · have := hs.hi t ht; omega
    · rw [List.mem_singleton] at ht
      subst ht
      simp only
      omega
  · rw [mem_app, mem_one]
    rcases Int.lt_or_le n x with hh | hh
    · rw [hs.mem n h0 (by omega)]
      constructor
      · rintro (h2 | h2)
        · exact h2
        · omega
      · exact .inl
    · rw [allD_const h hx hh h1, hf]
      exact ⟨fun _ => rfl, fun _ => .inr ⟨hh, by omega⟩⟩
theorem sp_join {Ps : List (Nat × DL)} {E : List Int} {i : Nat} {Q : SL} {x c : Int} (h : EdOk Ps E) (hs : SpM Ps E i (Q ++ [(c, x - 1)])) (hx : E[i]? = some x) (hf : allD Ps x = true) : SpM Ps E (i + 1) (Q ++ [(c, beta E (i + 1) - 1)]) := by
  have hb := beta_next h hx
  have e := beta_at hx
  obtain ⟨k1, k2, k3⟩ := (canon_app _ _).1 hs.can
  have k4 := k2.2 (c, x - 1) (by simp)
  simp only at k4
  refine ⟨(canon_app _ _).2 ⟨k1, canon_one _ _ k4.1 (by omega) (by omega), fun s hs' t ht => ?_⟩, fun t ht => ?_, fun n h0 h1 => ?_, by have := hs.len; simp only [List.length_append, List.length_singleton] at this ⊢; omega⟩
  · rw [List.mem_singleton] at ht
    subst ht
    exact k3 s hs' (c, x - 1) (by simp)
  · rcases List.mem_append.1 ht with ht | ht
    · have := hs.hi t (List.mem_append_left _ ht); omega
    · rw [List.mem_singleton] at ht
      subst ht
      simp only
      omega
  · have hm := hs.mem n h0
    rw [mem_app, mem_one] at hm ⊢
    rcases Int.lt_or_le n x with hh | hh
    · rw [← hm (by omega)]
      refine or_congr Iff.rfl ?_
      omega
    · rw [allD_const h hx hh h1, hf]
      exact ⟨fun _ => rfl, fun _ => .inr ⟨by omega, by omega⟩⟩
end Go.Proofs.Ytgbhdccadelcfaa.Sp
