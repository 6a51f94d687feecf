/- A list of bytes that came in, opened, with its reach. -/
import Derived.Test.YtnjapbfnodfgpaaRow4
import Derived.SizedLaws
namespace Go.Proofs.Ytnjapbfnodfgpaa.Rk
open Go Go.ChangeShapes Go.WideShapes Go.ChangeAt Go.RowKit
theorem bytes5 : Try.prog.bytesOf 5 = 1 := by kernel_rfl
section
variable {H : Type} {enc : TypeId × Value → H} {W : World} {held : Bool}
/-- A list of bytes: where it stands, how long it is, what it holds. -/
theorem open_bytes3 {b0 : Nat} {v : Value} {d : DataW H} {p : List MemPlace} (hv : Value.okWide Try.prog W .any b0 23 v) (h : DataW.Trod enc Try.prog W 0 (fun _ => true) held 23 v d p) {d1 : DataW H} (hsz : (DataW.weightsEach Try.prog ([23, 3] : List TypeId) ([d, d1] : List (DataW H))).all (fun x => decide (x ≤ reachBytes)) = true) :
    ∃ (ao : Option Addr) (c : Nat) (l : List Int), v = .slice ao l.length c ∧ l.length ≤ c ∧ c ≤ maxLen ∧ Rd W ao l ∧ (∀ x ∈ l, 0 ≤ x ∧ x ≤ 255) ∧ (ao = none → c = 0) ∧ l.length ≤ 140737488351232 := by
  obtain ⟨a0, n0, c0, rfl⟩ := okWide_slice Try.underlying23 hv
  obtain ⟨fuel, hf⟩ := h
  rcases open_ints Try.underlying23 Try.underlying5 cells5 hf with ⟨hcs, _⟩ | ⟨a, len, cap, zs, hcs, _, h1, h2, h3, hx, h4, h5⟩
  · simp only [Value.cells, List.cons.injEq, and_true] at hcs
    exact ⟨none, 0, [], hcs, Nat.le_refl _, Nat.zero_le _, Rd.nil _ _, by simp, fun _ => rfl, Nat.zero_le _⟩
  · simp only [Value.cells, List.cons.injEq, and_true] at hcs
    rw [if_pos rfl] at h3
    have hl : (zs.take len).length = len := by rw [List.length_take]; omega
    refine ⟨some a, cap, zs.take len, by rw [hl]; exact hcs, by omega, h2, fun k hk => ?_, fun x hx => ?_, (fun h => by cases h), ?_⟩
    · rw [hl] at hk
      have hc := h4 k (by omega)
      have hb := World.block_lt_of_cell? W _ hc
      rw [add_block] at hb
      refine ⟨a, rfl, hb, ?_⟩
      rw [hc, List.getD_eq_getElem?_getD, List.getD_eq_getElem?_getD, List.getElem?_take, if_pos hk]
    · have := bounds_u8 (h5 x (List.mem_of_mem_take hx))
      exact this
    · have hd : d = .slice (lits .u8 (zs.take len)) (lits .u8 (zs.drop len)) := by cases hx; rfl
      subst hd
      have := sized_slice hsz (j := 0) (t := 23) (e := 5) rfl rfl Try.underlying23
      rw [bytes5] at this
      simp only [lits, List.length_map, List.length_take, List.length_drop, reachBytes] at this
      rw [hl]
      omega
end
end Go.Proofs.Ytnjapbfnodfgpaa.Rk
