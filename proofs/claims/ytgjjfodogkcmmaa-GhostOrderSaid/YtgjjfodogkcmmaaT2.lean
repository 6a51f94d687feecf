/- ghost: how counts turn. -/
import Derived.Test.YtgjjfodogkcmmaaT1
namespace Go.Proofs.Ytgjjfodogkcmmaa.Gh
open Go Go.RowKit Ytgjjfodogkcmmaa.So
/-- What was held of a number. -/
def rowG (S : GS) (k : Int) : List Int := (S.find? fun e => e.1 = k).elim [] Prod.snd
def dropG (S : GS) (k : Int) : GS := S.filter fun e => ¬ e.1 = k
def holdG (S : GS) (k : Int) (th : Bool) (L : List Int) : GS := if th then dropG S k ++ [(k, L)] else dropG S k
theorem find_mem {S : GS} {k : Int} {e : Int × List Int} (h : S.find? (fun e => e.1 = k) = some e) : e ∈ S ∧ e.1 = k := ⟨List.mem_of_find?_eq_some h, by simpa using List.find?_some h⟩
theorem key_one {S : GS} (h : (S.map Prod.fst).Nodup) {e d : Int × List Int} (he : e ∈ S) (hd : d ∈ S) (hk : e.1 = d.1) : e = d := by
  induction S with
  | nil => cases he
  | cons x S ih =>
    simp only [List.map_cons, List.nodup_cons, List.mem_map, not_exists, not_and] at h
    simp only [List.mem_cons] at he hd
    rcases he with rfl | he <;> rcases hd with rfl | hd
    · rfl
    · exact absurd hk.symm (h.1 d hd)
    · exact absurd hk (h.1 e he)
    · exact ih h.2 he hd
theorem rowG_at {S : GS} (h : (S.map Prod.fst).Nodup) {e : Int × List Int} (he : e ∈ S) : rowG S e.1 = e.2 := by
  unfold rowG
  cases hf : S.find? (fun d => d.1 = e.1) with
  | none =>
    have := List.find?_eq_none.1 hf e he
    simp at this
  | some d =>
    obtain ⟨h1, h2⟩ := find_mem hf
    have := key_one h h1 he h2
    subst this
    rfl
theorem rowG_none {S : GS} {k : Int} (h : ¬ heldG S k) : rowG S k = [] := by
  unfold rowG
  cases hf : S.find? (fun d => d.1 = k) with
  | none => rfl
  | some d =>
    obtain ⟨h1, h2⟩ := find_mem hf
    exact absurd ⟨d, h1, h2⟩ h
theorem drop_none {S : GS} {k : Int} (h : ¬ heldG S k) : dropG S k = S := by
  unfold dropG
  rw [List.filter_eq_self]
  intro e he
  simp only [decide_not, Bool.not_eq_true', decide_eq_false_iff_not]
  exact fun e1 => h ⟨e, he, e1⟩
theorem cnt_cons (e : Int × List Int) (S : GS) (x : Int) : cnt (e :: S) x = e.2.count x + cnt S x := by simp [cnt]
theorem cnt_app (A B : GS) (x : Int) : cnt (A ++ B) x = cnt A x + cnt B x := by simp [cnt]
theorem cnt_drop {S : GS} (h : (S.map Prod.fst).Nodup) (k x : Int) : cnt S x = cnt (dropG S k) x + (rowG S k).count x := by
  induction S with
  | nil => simp [cnt, dropG, rowG]
  | cons e S ih =>
    have hn := h
    simp only [List.map_cons, List.nodup_cons, List.mem_map, not_exists, not_and] at h
    by_cases e1 : e.1 = k
    · have h2 : ¬ heldG S k := by
        rintro ⟨d, hd, e2⟩
        exact h.1 d hd (e2.trans e1.symm)
      have h3 : dropG (e :: S) k = S := by
        have := drop_none h2
        unfold dropG at *
        rw [List.filter_cons_of_neg (by simp [e1]), this]
      have h4 : rowG (e :: S) k = e.2 := by
        rw [← e1]
        exact rowG_at (S := e :: S) hn (List.mem_cons_self ..)
      rw [h3, h4, cnt_cons]
      omega
    · have h3 : dropG (e :: S) k = e :: dropG S k := by
        unfold dropG
        rw [List.filter_cons_of_pos (by simp [e1])]
      have h4 : rowG (e :: S) k = rowG S k := by
        unfold rowG
        rw [List.find?_cons_of_neg (by simp [e1])]
      rw [h3, h4, cnt_cons, cnt_cons, ih h.2]
      omega
theorem keys_drop {S : GS} (h : (S.map Prod.fst).Nodup) (k : Int) : ((dropG S k).map Prod.fst).Nodup := by
  unfold dropG
  exact h.sublist (List.filter_sublist.map _)
theorem held_drop {S : GS} {k x : Int} : heldG (dropG S k) x ↔ heldG S x ∧ x ≠ k := by
  constructor
  · rintro ⟨e, he, rfl⟩
    simp only [dropG, List.mem_filter, decide_not, Bool.not_eq_true', decide_eq_false_iff_not] at he
    exact ⟨⟨e, he.1, rfl⟩, he.2⟩
  · rintro ⟨⟨e, he, rfl⟩, h2⟩
    exact ⟨e, by simp [dropG, he, h2], rfl⟩
theorem mem_drop {S : GS} {k : Int} {e : Int × List Int} : e ∈ dropG S k ↔ e ∈ S ∧ e.1 ≠ k := by
  simp [dropG]
theorem keys_hold {S : GS} (h : (S.map Prod.fst).Nodup) (k : Int) (th : Bool) (L : List Int) : ((holdG S k th L).map Prod.fst).Nodup := by
  unfold holdG
  split
  · rw [List.map_append, List.nodup_append]
    refine ⟨keys_drop h k, by simp, ?_⟩
    intro x hx y hy
    simp only [List.map_cons, List.map_nil, List.mem_singleton] at hy
    subst hy
    obtain ⟨e, he, rfl⟩ := List.mem_map.1 hx
    exact (mem_drop.1 he).2
  · exact keys_drop h k
theorem cnt_hold {S : GS} (k : Int) (L : List Int) (x : Int) : cnt (holdG S k true L) x = cnt (dropG S k) x + L.count x := by
  simp [holdG, cnt]
theorem take_count {L : List Int} {i : Nat} {x : Int} (h : L[i]? = some x) (y : Int) : (L.take (i + 1)).count y = (L.take i).count y + (if y = x then 1 else 0) := by
  rw [List.take_add_one, h, List.count_append]
  simp only [Option.toList, List.count_cons, List.count_nil]
  by_cases e : y = x
  · subst e; simp
  · rw [if_neg e]
    have : (x == y) = false := by rw [beq_eq_false_iff_ne]; exact fun h => e h.symm
    simp [this]
theorem count_take_le (L : List Int) (i : Nat) (x : Int) : (L.take i).count x ≤ L.count x := (List.take_sublist i L).count_le _
/-- A count that is one less, or one more, and what the map then has. -/
theorem nV_less {c : Int → Nat} {x : Int} (h : 1 < c x) : upd (nV c) x (some (.int .i64 ((c x : Int) - 1))) = nV (fun y => if y = x then c x - 1 else c y) := by
  funext y
  unfold upd nV
  by_cases e : y = x
  · subst e
    have e1 : (if y = y then c y - 1 else c y) = c y - 1 := if_pos rfl
    rw [if_pos rfl]
    show some _ = (if (if y = y then c y - 1 else c y) = 0 then none else some (Value.int .i64 ((if y = y then c y - 1 else c y : Nat) : Int)))
    rw [e1, if_neg (by omega)]
    congr 2; omega
  · simp only [if_neg e]
theorem nV_gone {c : Int → Nat} {x : Int} (h : c x = 1) (u : Option Value) : upd (upd (nV c) x u) x none = nV (fun y => if y = x then 0 else c y) := by
  funext y
  unfold upd nV
  by_cases e : y = x
  · subst e; simp
  · simp only [if_neg e]
theorem nV_more {c : Int → Nat} {x : Int} : upd (nV c) x (some (.int .i64 ((c x : Int) + 1))) = nV (fun y => if y = x then c x + 1 else c y) := by
  funext y
  unfold upd nV
  by_cases e : y = x
  · subst e
    have e1 : (if y = y then c y + 1 else c y) = c y + 1 := if_pos rfl
    rw [if_pos rfl]
    show some _ = (if (if y = y then c y + 1 else c y) = 0 then none else some (Value.int .i64 ((if y = y then c y + 1 else c y : Nat) : Int)))
    rw [e1, if_neg (by omega)]
    congr 2
  · simp only [if_neg e]
theorem nV_get (c : Int → Nat) (x : Int) : (nV c x).getD (.int .i64 0) = .int .i64 (c x) := by
  unfold nV
  by_cases e : c x = 0
  · simp [e]
  · simp [e]
end Go.Proofs.Ytgjjfodogkcmmaa.Gh
