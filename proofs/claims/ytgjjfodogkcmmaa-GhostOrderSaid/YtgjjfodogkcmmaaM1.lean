/- ghost: the tally and the document's lists say the same. -/
import Derived.Test.YtgjjfodogkcmmaaC5
import Derived.Test.YtgjjfodogkcmmaaU1
namespace Go.Proofs.Ytgjjfodogkcmmaa.Gh
open Go Go.RowKit Ytgjjfodogkcmmaa.So
theorem snoc_ind {α : Type} {P : List α → Prop} (h0 : P []) (h1 : ∀ l a, P l → P (l ++ [a])) (l : List α) : P l := by
  have : ∀ n (l : List α), l.length = n → P l := by
    intro n
    induction n with
    | zero => intro l h; rw [List.eq_nil_of_length_eq_zero h]; exact h0
    | succ n ih =>
      intro l h
      have hne : l ≠ [] := by intro e; rw [e] at h; simp at h
      rw [← List.dropLast_concat_getLast hne]
      exact h1 _ _ (ih _ (by rw [List.length_dropLast, h]; rfl))
  exact this _ l rfl
theorem hasV_app (A B : List Vx) (x : Int) : hasV (A ++ B) x = (hasV A x || hasV B x) := by simp [hasV]
theorem heldAt_snoc (Vs : List Vx) (v : Vx) (i : Nat) (hi : i < Vs.length) : heldAt (Vs ++ [v]) i = (heldAt Vs i && (Vs[i]?).any fun u => decide (u.id ≠ v.id)) := by
  unfold heldAt
  rw [List.getElem?_append_left hi, List.getElem?_eq_getElem hi, List.drop_append_of_le_length (by omega), Option.any_some, Option.any_some, Option.any_some, hasV_app]
  simp only [Bool.not_or, Bool.and_assoc]
  congr 2
  simp only [hasV, List.any_cons, List.any_nil, Bool.or_false]
  by_cases e : v.id = Vs[i].id
  · simp [e]
  · have e2 : ¬ Vs[i].id = v.id := fun h => e h.symm
    simp [e, e2]
theorem hl_snoc (Vs : List Vx) (v : Vx) : ∀ j, j ≤ Vs.length → hl (Vs ++ [v]) j = (hl Vs j).filter fun u => decide (u.id ≠ v.id)
  | 0, _ => rfl
  | j + 1, h => by
    have hj : j < Vs.length := by omega
    simp only [hl, hl_snoc Vs v j (by omega), List.filter_append, heldAt_snoc Vs v j hj]
    congr 1
    rw [List.getElem?_append_left hj, List.getElem?_eq_getElem hj]
    simp only [Option.any_some, Option.toList_some]
    cases h1 : heldAt Vs j
    · simp
    · by_cases h2 : Vs[j].id = v.id <;> simp [h2]
theorem heldL_snoc (Vs : List Vx) (v : Vx) : heldL (Vs ++ [v]) = ((heldL Vs).filter fun u => decide (u.id ≠ v.id)) ++ (if v.th then [v] else []) := by
  unfold heldL
  rw [List.length_append, List.length_cons, List.length_nil]
  simp only [hl]
  rw [hl_snoc Vs v _ (Nat.le_refl _)]
  congr 1
  have h1 : (Vs ++ [v])[Vs.length]? = some v := by simp
  have h2 : heldAt (Vs ++ [v]) Vs.length = v.th := by
    unfold heldAt
    rw [h1, Option.any_some, List.drop_of_length_le (by simp)]
    simp [hasV]
  rw [h1, h2]
  rfl
/-- The tally holds what the document holds. -/
theorem hold_held (Vs : List Vx) : holdAll Vs = (heldL Vs).map fun v => (v.id, v.fars) := by
  refine snoc_ind (P := fun Vs => holdAll Vs = (heldL Vs).map fun v => (v.id, v.fars)) rfl (fun Vs v ih => ?_) Vs
  show holdAll (Vs ++ [v]) = _
  rw [holdAll_snoc, heldL_snoc, ih]
  unfold holdG dropG
  rw [List.filter_map, List.map_append]
  have : ((fun e : Int × List Int => decide ¬ e.1 = v.id) ∘ fun u : Vx => (u.id, u.fars)) = fun u : Vx => decide (u.id ≠ v.id) := by funext u; simp
  rw [this]
  cases v.th <;> simp
theorem held_has (H : List Vx) (x : Int) : heldG (H.map fun v => (v.id, v.fars)) x ↔ hasV H x = true := by
  unfold heldG hasV
  simp only [List.mem_map, List.any_eq_true, decide_eq_true_eq]
  constructor
  · rintro ⟨e, ⟨v, hv, rfl⟩, h⟩; exact ⟨v, hv, h⟩
  · rintro ⟨v, hv, h⟩; exact ⟨_, ⟨v, hv, rfl⟩, h⟩
theorem cnt_tot (H : List Vx) (x : Int) : cnt (H.map fun v => (v.id, v.fars)) x = tot x H := by
  simp only [cnt, tot, List.map_map]
  rfl
/-- A number laid into a rising list. -/
theorem insF_shape (x : Int) (l : List Int) (hl : Rise l) (hx : x ∉ l) : (insF l x = (l, false) ∧ ∀ y ∈ l, y < x) ∨ (∃ a b, l = a ++ b ∧ insF l x = (a ++ [x] ++ b, true) ∧ (∀ y ∈ a, y < x) ∧ (∀ y ∈ b, x < y) ∧ b ≠ []) := by
  refine snoc_ind (P := fun l => Rise l → x ∉ l → (insF l x = (l, false) ∧ ∀ y ∈ l, y < x) ∨ (∃ a b, l = a ++ b ∧ insF l x = (a ++ [x] ++ b, true) ∧ (∀ y ∈ a, y < x) ∧ (∀ y ∈ b, x < y) ∧ b ≠ [])) (fun _ _ => .inl ⟨rfl, by simp⟩) (fun l y ih hr hx => ?_) l hl hx
  have hr2 := List.pairwise_append.1 hr
  have hxl : x ∉ l := fun h => hx (List.mem_append_left _ h)
  have hxy : x ≠ y := fun h => hx (by rw [h]; simp)
  rw [insF_snoc]
  rcases ih hr2.1 hxl with ⟨h1, h2⟩ | ⟨a, b, h1, h2, h3, h4, h5⟩
  · rw [h1]
    by_cases hc : x < y
    · refine .inr ⟨l, [y], rfl, ?_, h2, by simpa using hc, by simp⟩
      unfold insS; rw [if_pos ⟨rfl, hc⟩]
    · refine .inl ⟨?_, fun z hz => ?_⟩
      · unfold insS; rw [if_neg (fun h => hc h.2)]
      · rcases List.mem_append.1 hz with hz | hz
        · exact h2 z hz
        · rw [List.mem_singleton.1 hz]; omega
  · rw [h2]
    refine .inr ⟨a, b ++ [y], by rw [h1, List.append_assoc], ?_, h3, fun z hz => ?_, by simp⟩
    · unfold insS; rw [if_neg (fun h => by cases h.1)]; simp
    · rcases List.mem_append.1 hz with hz | hz
      · exact h4 z hz
      · rw [List.mem_singleton.1 hz]
        cases b with
        | nil =>
          exact absurd rfl h5
        | cons z0 b =>
          have hz0 := h4 z0 (List.mem_cons_self ..)
          have := hr2.2.2 z0 (by rw [h1]; simp) y (by simp)
          omega
theorem insL_rise {l : List Int} (hl : Rise l) (x : Int) : Rise (insL l x) ∧ ∀ y, y ∈ insL l x ↔ (y ∈ l ∨ y = x) := by
  unfold insL
  by_cases hx : x ∈ l
  · rw [if_pos hx]
    refine ⟨hl, fun y => ⟨.inl, ?_⟩⟩
    rintro (h | rfl)
    · exact h
    · exact hx
  · rw [if_neg hx]
    rcases insF_shape x l hl hx with ⟨h1, h2⟩ | ⟨a, b, h1, h2, h3, h4, _⟩
    · rw [h1, if_neg (by simp)]
      refine ⟨List.pairwise_append.2 ⟨hl, List.pairwise_singleton _ _, fun y hy z hz => by rw [List.mem_singleton.1 hz]; exact h2 y hy⟩, fun y => by simp⟩
    · rw [h2, if_pos rfl]
      rw [h1] at hl ⊢
      have h5 := List.pairwise_append.1 hl
      refine ⟨?_, fun y => by
        simp only [List.mem_append, List.mem_singleton]
        constructor
        · rintro ((h | h) | h) <;> simp [h]
        · rintro ((h | h) | h) <;> simp [h]⟩
      refine List.pairwise_append.2 ⟨List.pairwise_append.2 ⟨h5.1, List.pairwise_singleton _ _, fun y hy z hz => by rw [List.mem_singleton.1 hz]; exact h3 y hy⟩, h5.2.1, fun y hy z hz => ?_⟩
      rcases List.mem_append.1 hy with hy | hy
      · exact h5.2.2 y hy z hz
      · rw [List.mem_singleton.1 hy]; exact h4 z hz
theorem fH_rise (H : List Vx) : ∀ (L : List Hf) (acc : List Int), Rise acc → Rise (fH H acc L) ∧ ∀ x, x ∈ fH H acc L ↔ (x ∈ acc ∨ ∃ t ∈ L, t.1 = x ∧ hasV H x = false)
  | [], acc, h => ⟨h, fun x => by simp [fH]⟩
  | t :: L, acc, h => by
    have e : fH H acc (t :: L) = fH H (if hasV H t.1 then acc else insL acc t.1) L := rfl
    rw [e]
    cases hb : hasV H t.1
    · have h1 := insL_rise h t.1
      have h2 := fH_rise H L (insL acc t.1) h1.1
      refine ⟨by simpa using h2.1, fun x => ?_⟩
      have h3 := h2.2 x
      simp only [Bool.false_eq_true, if_false]
      rw [h3, h1.2]
      constructor
      · rintro ((h | rfl) | ⟨u, hu, hx, hq⟩)
        · exact .inl h
        · exact .inr ⟨t, by simp, rfl, hb⟩
        · exact .inr ⟨u, by simp [hu], hx, hq⟩
      · rintro (h | ⟨u, hu, hx, hq⟩)
        · exact .inl (.inl h)
        · rcases List.mem_cons.1 hu with rfl | hu
          · exact .inl (.inr hx.symm)
          · exact .inr ⟨u, hu, hx, hq⟩
    · have h2 := fH_rise H L acc h
      refine ⟨by simpa using h2.1, fun x => ?_⟩
      simp only [if_true]
      rw [h2.2 x]
      constructor
      · rintro (h | ⟨u, hu, hx, hq⟩)
        · exact .inl h
        · exact .inr ⟨u, by simp [hu], hx, hq⟩
      · rintro (h | ⟨u, hu, hx, hq⟩)
        · exact .inl h
        · rcases List.mem_cons.1 hu with rfl | hu
          · rw [hx, hq] at hb; cases hb
          · exact .inr ⟨u, hu, hx, hq⟩
theorem fV_rise (H : List Vx) : ∀ (Vs : List Vx) (acc : List Int), Rise acc → Rise (fV H acc Vs) ∧ ∀ x, x ∈ fV H acc Vs ↔ (x ∈ acc ∨ ∃ v ∈ Vs, ∃ t ∈ v.L, t.1 = x ∧ hasV H x = false)
  | [], acc, h => ⟨h, fun x => by simp [fV]⟩
  | v :: Vs, acc, h => by
    have e : fV H acc (v :: Vs) = fV H (fH H acc v.L) Vs := rfl
    rw [e]
    have h1 := fH_rise H v.L acc h
    have h2 := fV_rise H Vs (fH H acc v.L) h1.1
    refine ⟨h2.1, fun x => ?_⟩
    rw [h2.2, h1.2]
    constructor
    · rintro ((h | ⟨t, ht, hx⟩) | ⟨u, hu, hx⟩)
      · exact .inl h
      · exact .inr ⟨v, by simp, t, ht, hx⟩
      · exact .inr ⟨u, by simp [hu], hx⟩
    · rintro (h | ⟨u, hu, hx⟩)
      · exact .inl (.inl h)
      · rcases List.mem_cons.1 hu with rfl | hu
        · exact .inl (.inr hx)
        · exact .inr ⟨u, hu, hx⟩
theorem tot_pos (x : Int) (Vs : List Vx) : tot x Vs ≠ 0 ↔ ∃ v ∈ Vs, ∃ t ∈ v.L, t.1 = x := by
  induction Vs with
  | nil => simp [tot]
  | cons v Vs ih =>
    have e : tot x (v :: Vs) = totH x v.L + tot x Vs := by simp [tot]
    have e2 : totH x v.L ≠ 0 ↔ ∃ t ∈ v.L, t.1 = x := by
      unfold totH
      rw [Ne, List.count_eq_zero, Classical.not_not, List.mem_map]
    constructor
    · intro h
      by_cases h1 : totH x v.L = 0
      · obtain ⟨u, hu, hx⟩ := ih.1 (by omega)
        exact ⟨u, by simp [hu], hx⟩
      · exact ⟨v, by simp, e2.1 h1⟩
    · rintro ⟨u, hu, hx⟩
      rcases List.mem_cons.1 hu with rfl | hu
      · have := e2.2 hx; omega
      · have := ih.2 ⟨u, hu, hx⟩; omega
/-- Count: the tally's list is the document's. -/
theorem count_same {Vs : List Vx} {ss : List Int} (h : Named (holdAll Vs) ss) (h32 : ∀ v ∈ Vs, ∀ t ∈ v.L, In32 t.1) : glOf (holdAll Vs) ss = countL Vs := by
  have hF := fV_rise (heldL Vs) (heldL Vs) [] List.Pairwise.nil
  have hof : ∀ x, ofG (holdAll Vs) x = if hasV (heldL Vs) x then 0 else tot x (heldL Vs) := fun x => by
    unfold ofG
    rw [hold_held, cnt_tot]
    by_cases hh : hasV (heldL Vs) x = true
    · rw [if_pos ((any_held _ _).2 ((held_has _ _).2 hh)), if_pos hh]
    · rw [if_neg (fun e => hh ((held_has _ _).1 ((any_held _ _).1 e))), if_neg hh]
  have hmem : ∀ x, x ∈ fV (heldL Vs) [] (heldL Vs) ↔ ofG (holdAll Vs) x ≠ 0 := fun x => by
    rw [hF.2, hof]
    constructor
    · rintro (h | ⟨v, hv, t, ht, hx, hq⟩)
      · cases h
      · rw [hq, if_neg (by simp)]
        exact (tot_pos x _).2 ⟨v, hv, t, ht, hx⟩
    · intro hne
      cases hq : hasV (heldL Vs) x
      · rw [hq, if_neg (by simp)] at hne
        obtain ⟨v, hv, t, ht, hx⟩ := (tot_pos x _).1 hne
        exact .inr ⟨v, hv, t, ht, hx, rfl⟩
      · rw [hq, if_pos rfl] at hne; exact absurd rfl hne
  have h32F : ∀ x ∈ fV (heldL Vs) [] (heldL Vs), In32 x := fun x hx => by
    rcases (hF.2 x).1 hx with h | ⟨v, hv, t, ht, hx2, _⟩
    · cases h
    · rw [← hx2]; exact h32 v (hl_sub Vs _ v hv) t ht
  rw [gl_same h hF.1 h32F (fun x _ => hmem x)]
  unfold countL cntsL
  refine List.map_congr_left (fun x hx => ?_)
  have h1 := (hmem x).1 hx
  rw [hof] at h1 ⊢
  cases hq : hasV (heldL Vs) x
  · simp
  · rw [hq] at h1; exact absurd rfl h1
end Go.Proofs.Ytgjjfodogkcmmaa.Gh
