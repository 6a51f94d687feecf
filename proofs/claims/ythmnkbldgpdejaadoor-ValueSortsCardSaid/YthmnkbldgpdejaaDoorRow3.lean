/- A list of values that came in, opened. -/
import Derived.Test.YthmnkbldgpdejaaDoorRow
import Derived.Test.YthmnkbldgpdejaaDoorW19
import Derived.Deep.Slices
import Derived.Deep.Fields
import Derived.Carry
namespace Go.Proofs.YthmnkbldgpdejaaDoor.Val
open Go Go.ChangeShapes Go.WideShapes Go.ChangeAt Go.RowKit Go.Joins Go.ChangeMaps Go.Deep
section
variable {H : Type} {enc : TypeId × Value → H} {W : World} {base : Nat} {spare : Nat → Bool} {held : Bool}
theorem open3 {P : Program} {t : TypeId} {f0 f1 f2 : Field} {fuel : Nat} {cs : List Value} {x : DataW H × List MemPlace} (hs : P.underlying t = some (.struct #[f0, f1, f2])) (hone : oneCellFields P #[f0, f1, f2] = true) (hC : P.cellsOf t = 3)
    (h : DataW.trod enc P W base spare held fuel t cs = some x) :
    ∃ (c0 c1 c2 : Value) (y0 y1 y2 : DataW H × List MemPlace) (n : Nat), cs = [c0, c1, c2] ∧ DataW.trod enc P W base spare held n f0.type [c0] = some y0 ∧ DataW.trod enc P W base spare held n f1.type [c1] = some y1 ∧ DataW.trod enc P W base spare held n f2.type [c2] = some y2 := by
  obtain ⟨xs, n, _, _, hlen, hxl, hg⟩ := DataW.trod_struct hs h
  rw [hC] at hlen
  obtain ⟨o0, k0⟩ := hone_of hone 0 f0 rfl
  obtain ⟨o1, k1⟩ := hone_of hone 1 f1 rfl
  obtain ⟨o2, k2⟩ := hone_of hone 2 f2 rfl
  match cs, hlen, xs, hxl with
  | [c0, c1, c2], _, [y0, y1, y2], _ =>
    exact ⟨c0, c1, c2, y0, y1, y2, n, rfl, by simpa [o0, k0] using hg 0 f0 rfl, by simpa [o1, k1] using hg 1 f1 rfl, by simpa [o2, k2] using hg 2 f2 rfl⟩
theorem elem_open {fuel : Nat} {cs : List Value} {x : DataW H × List MemPlace} (h : DataW.trod enc Tryd.prog W base spare held fuel 23 cs = some x) : ∃ t : Tri, cs = t.cells ∧ t.s.size ≤ maxLen := by
  obtain ⟨c0, c1, c2, y0, y1, y2, n, rfl, t0, t1, t2⟩ := open3 Tryd.underlying23 (by kernel_rfl) cells23 h
  obtain ⟨k, e0, _, _⟩ := DataW.trod_int Tryd.underlying5 t0
  obtain ⟨m, e1, _, _⟩ := DataW.trod_int Tryd.underlying2 t1
  obtain ⟨s, e2, _, w2⟩ := DataW.trod_string Tryd.underlying9 t2
  simp only [List.cons.injEq, and_true] at e0 e1 e2
  subst e0; subst e1; subst e2
  exact ⟨⟨k, m, s⟩, rfl, w2⟩
/-- A list that came in: nothing in it; or in a row whose cells are those of values. -/
theorem open_list {b0 : Nat} {v : Value} {d : DataW H} {p : List MemPlace} (hv : Value.okWide Tryd.prog W .any b0 45 v) (h : DataW.Trod enc Tryd.prog W 0 (fun _ => true) held 45 v d p) :
    (∃ a c, v = .slice a 0 c) ∨ ∃ (b off len cap : Nat) (D : Nat → Tri), v = .slice (some ⟨b, off, none⟩) len cap ∧ b < W.heap.size ∧ len ≤ maxLen ∧
      ∀ i, i < len → W.cell? ⟨b, off + i * 3, none⟩ = some (.int .u8 (D i).k) ∧ W.cell? ⟨b, off + i * 3 + 1, none⟩ = some (.int .i64 (D i).n) ∧ W.cell? ⟨b, off + i * 3 + 2, none⟩ = some (.string (D i).s) ∧ (D i).s.size ≤ maxLen := by
  obtain ⟨a, len, cap, rfl⟩ := okWide_slice Tryd.underlying45 hv
  obtain ⟨fuel, hf⟩ := h
  rcases open_slice Tryd.underlying45 hf with ⟨hcs, _⟩ | ⟨a', len', cap', m, n, D, Pl, hcs, _, hl, hm, hmm, _, hi⟩
  · left
    simp [Value.cells] at hcs
    exact ⟨a, cap, by rw [hcs.2.1]⟩
  · simp only [Value.cells, List.cons.injEq, and_true] at hcs
    injection hcs with h1 h2 h3
    subst h1; subst h2; subst h3
    have hmc : m = cap := by rw [hmm]; rfl
    by_cases h0 : len = 0
    · subst h0; exact .inl ⟨_, _, rfl⟩
    · right
      rw [cells23] at hi
      have each : ∀ i, i < len → ∃ t : Tri, t.s.size ≤ maxLen ∧ ∀ j, j < 3 → W.cell? ((a'.add (i * 3)).add j) = t.cells[j]? := by
        intro i hil
        obtain ⟨cs', hc, ht⟩ := hi i (by omega)
        obtain ⟨t, rfl, hs⟩ := elem_open ht
        exact ⟨t, hs, (World.cells?_some hc).2.2⟩
      obtain ⟨t, _, hj⟩ := each 0 (by omega)
      obtain ⟨b, off, spot⟩ := a'
      have hsp : spot = none := by
        have := hj 0 (by omega)
        simp [Addr.add, Tri.cells] at this
        exact World.cell?_spot this
      subst hsp
      have hb : b < W.heap.size := by
        have := hj 0 (by omega)
        simp [Addr.add, Tri.cells] at this
        exact World.block_lt_of_cell? W _ this
      have each2 : ∀ i, i < len → ∃ t : Tri, t.s.size ≤ maxLen ∧ ∀ j, j < 3 → W.cell? ⟨b, off + i * 3 + j, none⟩ = t.cells[j]? := fun i hil => by
        obtain ⟨t, hs, hj⟩ := each i hil
        refine ⟨t, hs, fun j hj3 => ?_⟩
        have := hj j hj3
        rwa [add_plain, add_plain] at this
      refine ⟨b, off, len, cap, fun i => if hil : i < len then Classical.choose (each2 i hil) else t, rfl, hb, by omega, fun i hil => ?_⟩
      have hcs := Classical.choose_spec (each2 i hil)
      simp only [dif_pos hil]
      exact ⟨hcs.2 0 (by omega), hcs.2 1 (by omega), hcs.2 2 (by omega), hcs.1⟩
/-- The end of a law, where an argument holds memory: read as it was told for the row's own spare places. -/
theorem law_true2 {H : Type} {enc : TypeId × Value → H} {f : Func} {s : ChangeSpec} {W W' : World} {args : Array Value} {ds : List (DataW H)} {pa : List MemPlace}
    (hvars : s.vars = []) (hres : f.resultTypes = #[4]) (hspec : s.fn H ds = { results := [.lit (.bool true)], args := ds })
    (hW : DataW.Whole enc Tryd.prog f.params.toList s.vars false W args.toList ds [] pa) (hb : Below W.heap.size W W')
    (hargs : DataW.TrodAll enc Tryd.prog W' 0 (fun b => decide (b < W.heap.size)) true f.params.toList args.toList ds pa) :
    s.post enc Tryd.prog f false true false false W args (.bool true) W' := by
  have bool4 : ∀ (b : Nat) (sp : Nat → Bool) (hd : Bool), DataW.TrodAll enc Tryd.prog W' b sp hd f.resultTypes.toList ((Value.bool true).resultList f.resultTypes.size) [.lit (.bool true)] [] := by
    intro b sp hd; rw [hres]; exact trodAll_cons_mk (shut_bool Tryd.underlying4 _) trodAll_mk0
  have none4 : ∀ sp : Nat → Bool, DataW.TrodVars enc Tryd.prog W' sp s.vars [] [] := by intro sp; rw [hvars]; rfl
  have e : s.fn H (ds ++ []) = { results := [.lit (.bool true)], args := ds } := by rw [List.append_nil]; exact hspec
  exact ⟨ds, [], pa, [], pa, [], hW, by rw [e]; exact bool4 _ _ _, by rw [e]; exact hargs, by rw [e]; exact none4 _, World.keptBut_mono (fun p hp => ⟨hp, .inr (.inl hp)⟩) (hb.frame (· ∈ pa)), fun h => by cases h⟩
theorem laid_out : laidOutB Tryd.prog = true := by kernel_rfl
end
end Go.Proofs.YthmnkbldgpdejaaDoor.Val
