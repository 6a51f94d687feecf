/- The law on rows that are parted again, walked. -/
import Derived.Test.YtnjapbfnodfgpaaW18
import Derived.Test.YtnjapbfnodfgpaaBack
import Derived.Deep.DeepCutAuto
namespace Go.Proofs.Ytnjapbfnodfgpaa.Rk
open Go Go.RowKit
/-- Two rows in boxes, their texts, their codes: as they stand in a world. -/
structure St (w x : World) (ao bo p1 p2 : Option Addr) (A B P Q : List Int) (n' c m' d : Nat) (N M N' M' : Int) : Prop where
  below : Below w.heap.size w x
  size : w.heap.size + 2 ≤ x.heap.size
  a0 : x.cell? ⟨w.heap.size, 0, none⟩ = some (.int .i64 N)
  a1 : x.cell? ⟨w.heap.size, 1, none⟩ = some (.slice ao n' c)
  a2 : x.cell? ⟨w.heap.size, 2, none⟩ = some (.int .u64 M)
  b0 : x.cell? ⟨w.heap.size + 1, 0, none⟩ = some (.int .i64 N')
  b1 : x.cell? ⟨w.heap.size + 1, 1, none⟩ = some (.slice bo m' d)
  b2 : x.cell? ⟨w.heap.size + 1, 2, none⟩ = some (.int .u64 M')
  ra : Rd x ao A
  rb : Rd x bo B
  rp : Rd x p1 P
  rq : Rd x p2 Q
theorem St.on {w x y : World} {ao bo p1 p2 : Option Addr} {A B P Q : List Int} {n' c m' d : Nat} {N M N' M' : Int} (h : St w x ao bo p1 p2 A B P Q n' c m' d N M N' M') (hb : Below x.heap.size x y) : St w y ao bo p1 p2 A B P Q n' c m' d N M N' M' := by
  obtain ⟨t0, t1, t2, t3, t4, t5⟩ := six_on hb h.size h.a0 h.a1 h.a2 h.b0 h.b1 h.b2
  exact ⟨h.below.trans (hb.mono h.below.size), Nat.le_trans h.size hb.size, t0, t1, t2, t3, t4, t5, h.ra.on hb (Nat.le_refl _), h.rb.on hb (Nat.le_refl _), h.rp.on hb (Nat.le_refl _), h.rq.on hb (Nat.le_refl _)⟩
/-- What is behind a place. -/
theorem Rd.drop {w : World} {g : Nat} {I R : List Int} {o : Nat} (h : Rd w (some ⟨g, o, none⟩) (I ++ R)) : Rd w (some ⟨g, o + I.length, none⟩) R := by
  intro k hk
  obtain ⟨a', h1, h2, h3⟩ := h (I.length + k) (by rw [List.length_append]; omega)
  cases h1
  refine ⟨_, rfl, h2, ?_⟩
  have e : (⟨g, o + I.length, none⟩ : Addr).add k = (⟨g, o, none⟩ : Addr).add (I.length + k) := by
    unfold Addr.add
    by_cases hk0 : k = 0
    · subst hk0
      by_cases hi : I.length = 0
      · simp [hi]
      · simp [hi]
    · simp [hk0, Nat.add_assoc]
  rw [e, h3, List.getD_eq_getElem?_getD, List.getD_eq_getElem?_getD, List.getElem?_append_right (by omega), Nat.add_sub_cancel_left]
theorem rowC_one {N N' : Int} {l l' : List Int} {M M' : Nat} (h0 : -9223372036854775808 ≤ N) (h1 : N ≤ 9223372036854775807) (h0' : -9223372036854775808 ≤ N') (h1' : N' ≤ 9223372036854775807) (hl : ∀ x ∈ l, 0 ≤ x ∧ x ≤ 255) (hl' : ∀ x ∈ l', 0 ≤ x ∧ x ≤ 255) (hM : M < 18446744073709551616) (hM' : M' < 18446744073709551616) :
    (N = N' ∧ l = l' ∧ M = M') ∨ Lt (rowC N l M) (rowC N' l' M') ∨ Lt (rowC N' l' M') (rowC N l M) := by
  unfold rowC
  rw [List.append_assoc, List.append_assoc]
  rcases Int.lt_trichotomy N N' with h | h | h
  · exact .inr (.inl ((intC_lt h0 h1' h).app _ _))
  · subst h
    rcases less_total l l' with h | h | h
    · subst h
      rcases Nat.lt_trichotomy M M' with h | h | h
      · exact .inr (.inl (((uintC_lt hM' h).pre _).pre _))
      · exact .inl ⟨rfl, rfl, h⟩
      · exact .inr (.inr (((uintC_lt hM h).pre _).pre _))
    · exact .inr (.inl (((textC_lt _ _ hl hl' h).app _ _).pre _))
    · exact .inr (.inr (((textC_lt _ _ hl' hl h).app _ _).pre _))
  · exact .inr (.inr ((intC_lt h0' h1 h).app _ _))
/-- A row's code is as long as its parts' are; it is the code of one row alone, and no beginning of another row's. -/
theorem rowC_apart {P Q : List Int} {one : Prop} (h : (one ∧ P = Q) ∨ (¬ one ∧ (Lt P Q ∨ Lt Q P))) : (P = Q ↔ one) ∧ (P.length < Q.length → P ≠ Q.take P.length) := by
  rcases h with ⟨h1, h2⟩ | ⟨h1, h2 | h2⟩
  · subst h2
    exact ⟨⟨fun _ => h1, fun _ => rfl⟩, fun h => absurd h (Nat.lt_irrefl _)⟩
  · exact ⟨⟨fun e => absurd e h2.ne, fun e => absurd e h1⟩, fun _ => h2.notpre.1⟩
  · exact ⟨⟨fun e => absurd e.symm h2.ne, fun e => absurd e h1⟩, fun _ => h2.notpre.2⟩
end Go.Proofs.Ytnjapbfnodfgpaa.Rk
