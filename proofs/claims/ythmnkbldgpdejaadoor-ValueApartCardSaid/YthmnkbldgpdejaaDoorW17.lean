/- ValueApart: every two values, every byte. -/
import Derived.Test.YthmnkbldgpdejaaDoorW16
namespace Go.Proofs.YthmnkbldgpdejaaDoor.Val
open Go Go.RowKit
theorem diff_of {k n : Int} {s : ByteArray} {k' n' : Int} {s' : ByteArray} (h : ¬ (k = k' ∧ n = n' ∧ s = s')) : Diff k n s k' n' s' := by
  unfold Diff
  by_cases a : k = k'
  · by_cases b : n = n'
    · refine .inr (.inr ⟨a, b, fun c => h ⟨a, b, ?_⟩⟩)
      rw [ByteArray.toList_eq, ByteArray.toList_eq] at c
      exact ByteArray.ext (Array.ext' c)
    · exact .inr (.inl ⟨a, b⟩)
  · exact .inl a
theorem other_of {k n : Int} {s r : ByteArray} (h : r ≠ wrB k n s) : ∃ pk pn pb pe, Other r pk pn pb pe k n s := by
  obtain ⟨pk, pn, pb, pe, hp⟩ : ∃ pk pn pb pe, parsed r = (pk, pn, pb, pe) := ⟨_, _, _, _, rfl⟩
  refine ⟨pk, pn, pb, pe, hp, ?_⟩
  rcases parsed_err r with he | he
  · rw [hp] at he
    obtain rfl : pe = 0 := he
    refine .inr ⟨rfl, diff_of ?_⟩
    rintro ⟨rfl, rfl, rfl⟩
    exact h (parsed_ok hp).2.1.symm
  · rw [hp] at he
    simp only [Prod.mk.injEq] at he
    exact .inl ⟨he.1, he.2.1, he.2.2.1, he.2.2.2⟩
theorem apart (k n k' n' m : Int) (s s' : ByteArray) (w : World) (hs : s.size ≤ maxLen) (hs' : s'.size ≤ maxLen) (htab : Pow w) (hev : ErrV w) (h0 : -9223372036854775808 ≤ n) (h1 : n ≤ 9223372036854775807) (h0' : -9223372036854775808 ≤ n') (h1' : n' ≤ 9223372036854775807) :
    Calls Tryd.prog 6 #[val k n s, val k' n' s', .int .u8 m] w fun e w' => e = .returned (.bool true) ∧ Below w.heap.size w w' := by
  cases hf : formB k n s.data.toList
  · cases hf' : formB k' n' s'.data.toList
    · exact apart_ff k n k' n' m s s' w hs hs' htab h0 h1 h0' h1' (Lib.hid hf) (Lib.hid hf')
    · exact apart_ft k n k' n' m s s' w hs hs' htab h0 h1 h0' h1' (Lib.hid hf) (Lib.hid hf')
  · cases hf' : formB k' n' s'.data.toList
    · exact apart_tf k n k' n' m s s' w hs hs' htab h0 h1 h0' h1' (Lib.hid hf) (Lib.hid hf')
    · have z1 : (oneB m).size = 1 := rfl
      obtain ⟨pk, pn, pb, pe, hp⟩ := other_of (k := k) (n := n) (s := s) (r := wrB k n s ++ oneB m) (fun e => by
        have := congrArg ByteArray.size e
        rw [ByteArray.size_append] at this; omega)
      obtain ⟨qk, qn, qb, qe, hq⟩ := other_of (k := k) (n := n) (s := s) (r := oneB m ++ wrB k n s) (fun e => by
        have := congrArg ByteArray.size e
        rw [ByteArray.size_append] at this; omega)
      have hz := wr_size hf h0 h1
      by_cases same : k = k' ∧ n = n' ∧ s = s'
      · obtain ⟨rfl, rfl, rfl⟩ := same
        exact apart_same k n m s w hs htab hev h0 h1 (Lib.hid hf) _ (Lib.hid rfl) hz pk pn pe qk qn qe pb qb (Lib.hid hp) (Lib.hid hq)
      · refine apart_tt k n k' n' m s s' w hs htab hev h0 h1 hs' h0' h1' (Lib.hid hf) (Lib.hid hf') _ _ (Lib.hid rfl) ?_ (diff_of same) (Lib.hid rfl) hz pk pn pe qk qn qe pb qb (Lib.hid hp) (Lib.hid hq)
        rw [beq_eq_false_iff_ne, ByteArray.toList_eq, ByteArray.toList_eq]
        intro e
        have e2 : wrB k n s = wrB k' n' s' := ByteArray.ext (Array.ext' e)
        have a := parsed_wr hf h0 h1
        rw [e2, parsed_wr hf' h0' h1'] at a
        simp only [Prod.mk.injEq] at a
        exact same ⟨a.1.symm, a.2.1.symm, a.2.2.1.symm⟩
end Go.Proofs.YthmnkbldgpdejaaDoor.Val
