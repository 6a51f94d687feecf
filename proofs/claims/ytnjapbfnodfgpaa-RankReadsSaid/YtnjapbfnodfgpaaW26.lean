/- An append of whatever was handed in, onto a row of the call's own. -/
import Derived.Test.YtnjapbfnodfgpaaW24
import Derived.Test.YtnjapbfnodfgpaaW25
import Derived.Test.YtnjapbfnodfgpaaBack
namespace Go.Proofs.Ytnjapbfnodfgpaa.Rk
open Go Go.RowKit
theorem app_any {ops : Array Oper} {rest : List Oper} {o : Oper} {a : Act} {Q : Exit → Act → World → Prop} (w : World) (hg : o.guard = none) (s x : Operand)
    (hop : o.op = Op.call { callee := Callee.builtin Builtin.append, args := #[s, x], argTypes := #[23, 23] })
    (base g n cap : Nat) (L R : List Int) (hs : a.eval s = .slice (some ⟨g, 0, none⟩) n cap) (hown : w.ownsRow base 5 1 (.slice (some ⟨g, 0, none⟩) n cap) n (bs L))
    (ao : Option Addr) (m c : Nat) (hx : a.eval x = .slice ao m c) (hR : R.length = m) (hrd : Rd w ao R) (hnone : ao = none → c = 0) (h63 : n + m ≤ maxLen) (hb : (n + m) * 1 ≤ 140737488355328) (hbase : base ≤ w.heap.size)
    (hK : ∀ g' c' w', w'.ownsRow base 5 1 (.slice (some ⟨g', 0, none⟩) (n + m) c') (n + m) (bs (L ++ R)) → w.grownBy w' (some g) → wpList Try.prog ops Q rest (a.put o.dst (.slice (some ⟨g', 0, none⟩) (n + m) c')) w') :
    wpList Try.prog ops Q (o :: rest) a w := by
  obtain ⟨i0, hi, hz0, hz1, hz2⟩ := info_parts info5
  by_cases h0 : m = 0
  · subst h0
    obtain rfl : R = [] := List.length_eq_zero_iff.1 hR
    refine wpList_append_fits_any w hg s x 23 hop base 5 i0 1 Try.underlying23 hi hz1 g n cap (bs L) hs hown ao 0 c [] hx rfl (fun h => ⟨rfl, hnone h⟩) (fun ad _ j u hu => by simp at hu) (by simp) (by have := (own_cap hown).1; omega) ?_
    intro w' ho hgr
    exact hK g cap w' (by rw [List.append_nil]; simpa using ho) hgr
  · obtain ⟨ad, rfl, _, _⟩ := hrd.here (fun e => h0 (by subst e; exact hR.symm))
    refine wpList_append_lies w hg s x 23 hop base 5 i0 _ 1 1 Try.underlying23 hi hz0 hz1 hz2 rfl (by decide) _ n (bs L) hs hown ad m c (bs R) hx (by rw [bs_length, hR]; omega) (rd_cells hrd) (bs_one R) (by omega) h63 hb hbase w.heap.size rfl ?_
    intro g' c' w' ho hgr _ _
    exact hK g' c' w' (by rw [bs_app]; exact ho) hgr
end Go.Proofs.Ytnjapbfnodfgpaa.Rk
