/- index: the mathematics of what is put and taken away. -/
import Derived.Test.YthjcohaldjfniaaL2
namespace Go.Proofs.Ythjcohaldjfniaa.Ix
open Go Go.RowKit
open Pq (Pg pv fq)
open It (fl)
def putL (L : IL) (k u : Int) : IL := L.filter (fun e => decide (e.1 < k)) ++ (k, u) :: L.filter (fun e => decide (k < e.1))
def delL (L : IL) (k : Int) : IL := L.filter (fun e => decide (e.1 ≠ k))
def hasL (L : IL) (k : Int) : Prop := ∃ e ∈ L, e.1 = k
theorem filter_all {L : IL} {f : Int × Int → Bool} (h : ∀ e ∈ L, f e = true) : L.filter f = L := List.filter_eq_self.2 h
theorem filter_no {L : IL} {f : Int × Int → Bool} (h : ∀ e ∈ L, f e = false) : L.filter f = [] := List.filter_eq_nil_iff.2 (fun e he => by simp [h e he])
theorem put_split {A D C : IL} {k u : Int} (hA : ∀ e ∈ A, e.1 < k) (hD : ∀ e ∈ D, e.1 = k) (hC : ∀ e ∈ C, k < e.1) : putL (A ++ D ++ C) k u = A ++ (k, u) :: C := by
  unfold putL
  rw [List.filter_append, List.filter_append, List.filter_append, List.filter_append]
  rw [filter_all (L := A) (fun e he => by simpa using hA e he), filter_no (L := D) (fun e he => by have := hD e he; simp; omega), filter_no (L := C) (f := fun e => decide (e.1 < k)) (fun e he => by have := hC e he; simp; omega)]
  rw [filter_no (L := A) (fun e he => by have := hA e he; simp; omega), filter_no (L := D) (fun e he => by have := hD e he; simp; omega), filter_all (L := C) (fun e he => by simpa using hC e he)]
  simp
theorem del_split {A D C : IL} {k : Int} (hA : ∀ e ∈ A, e.1 < k) (hD : ∀ e ∈ D, e.1 = k) (hC : ∀ e ∈ C, k < e.1) : delL (A ++ D ++ C) k = A ++ C := by
  unfold delL
  rw [List.filter_append, List.filter_append]
  rw [filter_all (L := A) (fun e he => by have := hA e he; simp; omega), filter_no (L := D) (fun e he => by have := hD e he; simp; omega), filter_all (L := C) (fun e he => by have := hC e he; simp; omega)]
  simp
theorem put_sorted {A C : IL} {k u : Int} (hA : ∀ e ∈ A, e.1 < k) (hC : ∀ e ∈ C, k < e.1) (sA : Sorted A) (sC : Sorted C) : Sorted (A ++ (k, u) :: C) := by
  unfold Sorted at *
  rw [List.pairwise_append, List.pairwise_cons]
  refine ⟨sA, ⟨fun e he => hC e he, sC⟩, fun a ha b hb => ?_⟩
  have h1 := hA a ha
  rcases List.mem_cons.1 hb with rfl | hb
  · exact h1
  · have := hC b hb; omega
/-- Where find has come to, of the whole. -/
theorem find_split {X : List Pg} {k : Int} {pg i : Nat} {ok : Bool} (hf : Fit X) (h : FindR X k pg i ok) : ∃ t, X[pg]? = some t ∧ i ≤ t.P.length ∧
    (∀ e ∈ cont (X.take pg) ++ t.P.take i, e.1 < k) ∧ cont X = (cont (X.take pg) ++ t.P.take i) ++ (t.P.drop i ++ cont (X.drop (pg + 1))) ∧
    (ok = false → (∀ e ∈ t.P.drop i ++ cont (X.drop (pg + 1)), k < e.1) ∧ ¬ hasL (cont X) k) ∧
    (ok = true → hasL (cont X) k ∧ ∃ u, i < t.P.length ∧ t.P[i]? = some (k, u) ∧ t.P.drop i = (k, u) :: t.P.drop (i + 1) ∧ ∀ e ∈ t.P.drop (i + 1) ++ cont (X.drop (pg + 1)), k < e.1) := by
  obtain ⟨t, ht, hi, h1, h2, h3, h4⟩ := h
  have e0 : cont X = (cont (X.take pg) ++ t.P.take i) ++ (t.P.drop i ++ cont (X.drop (pg + 1))) := by
    rw [cont_split ht]
    conv => lhs; rw [← List.take_append_drop i t.P]
    simp only [List.append_assoc]
  refine ⟨t, ht, hi, h1, e0, fun e => ⟨h4 e, ?_⟩, fun e => ?_⟩
  · rintro ⟨x, hx, rfl⟩
    rw [e0] at hx
    rcases List.mem_append.1 hx with hx | hx
    · have := h1 x hx; omega
    · have := h4 e x hx; omega
  · obtain ⟨u, hu⟩ := h3 e
    obtain ⟨hl, hu'⟩ := List.getElem?_eq_some_iff.1 hu
    have hd : t.P.drop i = (k, u) :: t.P.drop (i + 1) := by rw [List.drop_eq_getElem_cons hl, hu']
    have hs := hf.up
    rw [e0, hd] at hs
    obtain ⟨_, s2, _⟩ := sorted_app hs
    rw [List.cons_append] at s2
    refine ⟨⟨(k, u), ?_, rfl⟩, u, hl, hu, hd, (List.pairwise_cons.1 s2).1⟩
    rw [e0, hd]; simp
theorem set_drop {P : IL} {i : Nat} (h : i < P.length) (e : Int × Int) : P.set i e = P.take i ++ e :: P.drop (i + 1) := List.set_eq_take_append_cons_drop.trans (if_pos h)
theorem putL_len (L : IL) (k u : Int) : (putL L k u).length ≤ L.length + 1 := by
  unfold putL
  rw [List.length_append, List.length_cons]
  have : (L.filter (fun e => decide (e.1 < k))).length + (L.filter (fun e => decide (k < e.1))).length ≤ L.length := by
    induction L with
    | nil => simp
    | cons a L ih =>
      simp only [List.filter_cons, List.length_cons]
      by_cases h1 : a.1 < k
      · have h2 : ¬ k < a.1 := by omega
        simp only [h1, h2, decide_true, decide_false, if_true, Bool.false_eq_true, if_false, List.length_cons]
        omega
      · by_cases h2 : k < a.1
        · simp only [h1, h2, decide_true, decide_false, if_true, Bool.false_eq_true, if_false, List.length_cons]
          omega
        · simp only [h1, h2, decide_false, Bool.false_eq_true, if_false]
          omega
  omega
theorem delL_len (L : IL) (k : Int) : (delL L k).length ≤ L.length := List.length_filter_le _ _
end Go.Proofs.Ythjcohaldjfniaa.Ix
