/- ghost: Cuts and the document's say the same. -/
import Derived.Test.YtbiiiniffkjgcaaM1
namespace Go.Proofs.Ytbiiiniffkjgcaa.Gh
open Go Go.RowKit Ytbiiiniffkjgcaa.So
theorem held_keys (Vs : List Vx) : ((heldL Vs).map Vx.id).Nodup := by
  refine snoc_ind (P := fun Vs => ((heldL Vs).map Vx.id).Nodup) List.nodup_nil (fun Vs v ih => ?_) Vs
  show ((heldL (Vs ++ [v])).map Vx.id).Nodup
  rw [heldL_snoc, List.map_append, List.nodup_append]
  refine ⟨?_, ?_, fun x hx y hy => ?_⟩
  · exact List.Nodup.sublist (List.Sublist.map _ List.filter_sublist) ih
  · cases v.th <;> simp
  · obtain ⟨u, hu, rfl⟩ := List.mem_map.1 hx
    have h1 := (List.mem_filter.1 hu).2
    simp only [decide_eq_true_eq] at h1
    cases hth : v.th
    · rw [hth] at hy; simp at hy
    · rw [hth] at hy
      simp at hy
      rw [hy]; exact h1
theorem cH_rise (H : List Vx) (id : Int) : ∀ (L : List Hf) (acc : List Int), Rise acc → Rise (cH H id acc L) ∧ ∀ x, x ∈ cH H id acc L ↔ (x ∈ acc ∨ (x = id ∧ ∃ t ∈ L, hasV H t.1 = false))
  | [], acc, h => ⟨h, fun x => by simp [cH]⟩
  | t :: L, acc, h => by
    have e : cH H id acc (t :: L) = cH H id (if hasV H t.1 then acc else insL acc id) L := rfl
    rw [e]
    cases hb : hasV H t.1
    · have h1 := insL_rise h id
      have h2 := cH_rise H id L (insL acc id) h1.1
      refine ⟨by simpa using h2.1, fun x => ?_⟩
      simp only [Bool.false_eq_true, if_false]
      rw [h2.2 x, h1.2]
      constructor
      · rintro ((h | rfl) | ⟨hx, u, hu, hq⟩)
        · exact .inl h
        · exact .inr ⟨rfl, t, by simp, hb⟩
        · exact .inr ⟨hx, u, by simp [hu], hq⟩
      · rintro (h | ⟨hx, _⟩)
        · exact .inl (.inl h)
        · exact .inl (.inr hx)
    · have h2 := cH_rise H id L acc h
      refine ⟨by simpa using h2.1, fun x => ?_⟩
      simp only [if_true]
      rw [h2.2 x]
      constructor
      · rintro (h | ⟨hx, u, hu, hq⟩)
        · exact .inl h
        · exact .inr ⟨hx, u, by simp [hu], hq⟩
      · rintro (h | ⟨hx, u, hu, hq⟩)
        · exact .inl h
        · rcases List.mem_cons.1 hu with rfl | hu
          · rw [hq] at hb; cases hb
          · exact .inr ⟨hx, u, hu, hq⟩
theorem cV_rise (H : List Vx) : ∀ (Vs : List Vx) (acc : List Int), Rise acc → Rise (cV H acc Vs) ∧ ∀ x, x ∈ cV H acc Vs ↔ (x ∈ acc ∨ ∃ v ∈ Vs, x = v.id ∧ ∃ t ∈ v.L, hasV H t.1 = false)
  | [], acc, h => ⟨h, fun x => by simp [cV]⟩
  | v :: Vs, acc, h => by
    have e : cV H acc (v :: Vs) = cV H (cH H v.id acc v.L) Vs := rfl
    rw [e]
    have h1 := cH_rise H v.id v.L acc h
    have h2 := cV_rise H Vs (cH H v.id acc v.L) h1.1
    refine ⟨h2.1, fun x => ?_⟩
    rw [h2.2, h1.2]
    constructor
    · rintro ((h | ht) | ⟨u, hu, hx⟩)
      · exact .inl h
      · exact .inr ⟨v, by simp, ht⟩
      · exact .inr ⟨u, by simp [hu], hx⟩
    · rintro (h | ⟨u, hu, hx⟩)
      · exact .inl (.inl h)
      · rcases List.mem_cons.1 hu with rfl | hu
        · exact .inl (.inr hx)
        · exact .inr ⟨u, hu, hx⟩
theorem of_held (Vs : List Vx) (x : Int) : ofG (holdAll Vs) x = if hasV (heldL Vs) x then 0 else tot x (heldL Vs) := by
  unfold ofG
  rw [hold_held, cnt_tot]
  by_cases hh : hasV (heldL Vs) x = true
  · rw [if_pos ((any_held _ _).2 ((held_has _ _).2 hh)), if_pos hh]
  · rw [if_neg (fun e => hh ((held_has _ _).1 ((any_held _ _).1 e))), if_neg hh]
theorem row_held {Vs : List Vx} {v : Vx} (hv : v ∈ heldL Vs) : rowG (holdAll Vs) v.id = v.fars := by
  rw [hold_held]
  have hk : (((heldL Vs).map fun v => (v.id, v.fars)).map Prod.fst).Nodup := by
    rw [List.map_map]; exact held_keys Vs
  exact rowG_at hk (e := (v.id, v.fars)) (List.mem_map.2 ⟨v, hv, rfl⟩)
/-- Cuts: the tally's list is the document's. -/
theorem cuts_same {Vs : List Vx} {L : List Int} (h : CutSet (holdAll Vs) L) (h32 : ∀ v ∈ Vs, In32 v.id) : L = cutsL Vs := by
  have hc := cV_rise (heldL Vs) (heldL Vs) [] List.Pairwise.nil
  have key : ∀ x, (heldG (holdAll Vs) x ∧ (rowG (holdAll Vs) x).any (gB (holdAll Vs)) = true) ↔ ∃ v ∈ heldL Vs, x = v.id ∧ ∃ t ∈ v.L, hasV (heldL Vs) t.1 = false := fun x => by
    constructor
    · rintro ⟨⟨e, he, rfl⟩, h2⟩
      rw [hold_held] at he
      obtain ⟨v, hv, rfl⟩ := List.mem_map.1 he
      rw [row_held hv] at h2
      obtain ⟨y, hy, hg⟩ := List.any_eq_true.1 h2
      obtain ⟨t, ht, rfl⟩ := List.mem_map.1 hy
      refine ⟨v, hv, rfl, t, ht, ?_⟩
      unfold gB at hg
      rw [of_held] at hg
      cases hq : hasV (heldL Vs) t.1
      · rfl
      · rw [hq] at hg; simp at hg
    · rintro ⟨v, hv, rfl, t, ht, hq⟩
      refine ⟨?_, ?_⟩
      · rw [hold_held]; exact ⟨_, List.mem_map.2 ⟨v, hv, rfl⟩, rfl⟩
      · rw [row_held hv]
        refine List.any_eq_true.2 ⟨t.1, List.mem_map.2 ⟨t, ht, rfl⟩, ?_⟩
        unfold gB
        rw [of_held, hq, if_neg (by simp)]
        have := (tot_pos t.1 (heldL Vs)).2 ⟨v, hv, t, ht, rfl⟩
        simp; omega
  refine rise_same h.1 hc.1 (fun x => ?_)
  show x ∈ L ↔ x ∈ cV (heldL Vs) [] (heldL Vs)
  rw [hc.2]
  constructor
  · intro hx
    exact .inr ((key x).1 ((h.2.2 x (h.2.1 x hx)).1 hx))
  · rintro (hx | hx)
    · cases hx
    · have h2 := (key x).2 hx
      obtain ⟨v, hv, rfl, _⟩ := hx
      exact (h.2.2 _ (h32 v (hl_sub Vs _ v hv))).2 h2
end Go.Proofs.Ytbiiiniffkjgcaa.Gh
