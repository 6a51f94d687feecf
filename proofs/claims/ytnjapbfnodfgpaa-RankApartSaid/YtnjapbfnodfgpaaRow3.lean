/- A row that came in, opened: a number, a text, a number. -/
import Derived.Test.YtnjapbfnodfgpaaRow2
import Derived.Lib.SmallJoins
namespace Go.Proofs.Ytnjapbfnodfgpaa.Rk
open Go Go.ChangeShapes Go.WideShapes Go.ChangeAt Go.RowKit Go.Joins
theorem cells48 : Try.prog.cellsOf 48 = 3 := by kernel_rfl
section
variable {H : Type} {enc : TypeId × Value → H} {W : World} {held : Bool}
theorem core_bytes {fuel : Nat} {cs : List Value} {x : DataW H × List MemPlace} (hf : DataW.trod enc Try.prog W 0 (fun _ => true) held fuel 23 cs = some x) :
    ∃ (ao : Option Addr) (c : Nat) (l : List Int), cs = [.slice ao l.length c] ∧ l.length ≤ c ∧ c ≤ maxLen ∧ Rd W ao l ∧ ∀ x ∈ l, 0 ≤ x ∧ x ≤ 255 := by
  rcases open_ints Try.underlying23 Try.underlying5 cells5 hf with ⟨hcs, _⟩ | ⟨a, len, cap, zs, hcs, _, h1, h2, h3, _, h4, h5⟩
  · exact ⟨none, 0, [], hcs, Nat.le_refl _, Nat.zero_le _, Rd.nil _ _, by simp⟩
  · rw [if_pos rfl] at h3
    have hl : (zs.take len).length = len := by rw [List.length_take]; omega
    refine ⟨some a, cap, zs.take len, by rw [hl]; exact hcs, by omega, h2, fun k hk => ?_, fun x hx => bounds_u8 (h5 x (List.mem_of_mem_take hx))⟩
    rw [hl] at hk
    have hc := h4 k (by omega)
    have hb := World.block_lt_of_cell? W _ hc
    rw [add_block] at hb
    refine ⟨a, rfl, hb, ?_⟩
    rw [hc, List.getD_eq_getElem?_getD, List.getD_eq_getElem?_getD, List.getElem?_take, if_pos hk]
/-- A row: its number, its text, its other number. -/
theorem open_row {b0 : Nat} {v : Value} {d : DataW H} {p : List MemPlace} (hv : Value.okWide Try.prog W .any b0 48 v) (h : DataW.Trod enc Try.prog W 0 (fun _ => true) held 48 v d p) :
    ∃ (N M : Int) (ao : Option Addr) (c : Nat) (l : List Int), v = .agg #[.int .i64 N, .slice ao l.length c, .int .u64 M] ∧ (l.length ≤ c ∧ c ≤ maxLen ∧ Rd W ao l ∧ ∀ x ∈ l, 0 ≤ x ∧ x ≤ 255) ∧ (Lit.int .i64 N).wf = true ∧ (Lit.int .u64 M).wf = true := by
  obtain ⟨v0, v1, v2, y0, y1, y2, m, rfl, rfl, rfl, t0, t1, t2⟩ := open_agg3 Try.underlying48 (by kernel_rfl) cells48 hv h
  obtain ⟨N, e0, x0, w0⟩ := DataW.trod_int Try.underlying2 t0
  obtain ⟨ao, c, l, e1, hl⟩ := core_bytes t1
  obtain ⟨M, e2, x2, w2⟩ := DataW.trod_int Try.underlying22 t2
  simp only [List.cons.injEq, and_true] at e0 e1 e2
  subst e0; subst e1; subst e2
  exact ⟨N, M, ao, c, l, rfl, hl, w0, w2⟩
end
end Go.Proofs.Ytnjapbfnodfgpaa.Rk
