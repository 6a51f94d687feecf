/- Lists of stamps that came in, opened. -/
import Derived.Test.YtfennglfmngeiaaW13
namespace Go.Proofs.Ytfennglfmngeiaa.St
open Go Go.ChangeShapes Go.WideShapes Go.ChangeAt Go.RowKit Go.Joins Go.ChangeMaps Go.Deep
section
variable {H : Type} {enc : TypeId × Value → H} {W : World} {base : Nat} {spare : Nat → Bool} {held : Bool}
theorem open3' {P : Program} {t : TypeId} {f0 f1 f2 : Field} {fuel : Nat} {cs : List Value} {x : DataW H × List MemPlace} (hs : P.underlying t = some (.struct #[f0, f1, f2])) (hone : oneCellFields P #[f0, f1, f2] = true) (hC : P.cellsOf t = 3)
    (h : DataW.trod enc P W base spare held fuel t cs = some x) :
    ∃ (c0 c1 c2 : Value) (y0 y1 y2 : DataW H × List MemPlace) (n : Nat), cs = [c0, c1, c2] ∧ DataW.trod enc P W base spare held n f0.type [c0] = some y0 ∧ DataW.trod enc P W base spare held n f1.type [c1] = some y1 ∧ DataW.trod enc P W base spare held n f2.type [c2] = some y2 := by
  obtain ⟨xs, n, _, _, hlen, hxl, hg⟩ := DataW.trod_struct hs h
  rw [hC] at hlen
  obtain ⟨o0, k0⟩ := hone_of hone 0 f0 rfl
  obtain ⟨o1, k1⟩ := hone_of hone 1 f1 rfl
  obtain ⟨o2, k2⟩ := hone_of hone 2 f2 rfl
  match cs, hlen, xs, hxl with
  | [c0, c1, c2], _, [y0, y1, y2], _ =>
    exact ⟨c0, c1, c2, y0, y1, y2, n, rfl, by simpa [o0, k0] using hg 0 f0 rfl, by simpa [o1, k1] using hg 1 f1 rfl, by simpa [o2, k2] using hg 2 f2 rfl⟩
theorem open2 {P : Program} {t : TypeId} {f0 f1 : Field} {k : Nat} {fuel : Nat} {cs : List Value} {x : DataW H × List MemPlace} (hs : P.underlying t = some (.struct #[f0, f1])) (o0 : f0.offset = 0) (k0 : P.cellsOf f0.type = 1) (o1 : f1.offset = 1) (k1 : P.cellsOf f1.type = k) (hC : P.cellsOf t = k + 1)
    (h : DataW.trod enc P W base spare held fuel t cs = some x) :
    ∃ (c0 : Value) (r : List Value) (y0 y1 : DataW H × List MemPlace) (n : Nat), cs = c0 :: r ∧ r.length = k ∧ DataW.trod enc P W base spare held n f0.type [c0] = some y0 ∧ DataW.trod enc P W base spare held n f1.type r = some y1 := by
  obtain ⟨xs, n, _, _, hlen, hxl, hg⟩ := DataW.trod_struct hs h
  rw [hC] at hlen
  match cs, hlen, xs, hxl with
  | c0 :: r, hlen, [y0, y1], _ =>
    have hr : r.length = k := by simpa using hlen
    refine ⟨c0, r, y0, y1, n, rfl, hr, by simpa [o0, k0] using hg 0 f0 rfl, ?_⟩
    have := hg 1 f1 rfl
    rw [o1, k1] at this
    simp only [List.drop_succ_cons, List.drop_zero] at this
    rw [List.take_of_length_le (by omega)] at this
    simpa using this
theorem stamp_open {fuel : Nat} {cs : List Value} {x : DataW H × List MemPlace} (h : DataW.trod enc Try.prog W base spare held fuel 37 cs = some x) : cs.length = 4 ∧ ∃ q : Q, cs = encQ q := by
  obtain ⟨c0, r, y0, y1, n, rfl, hr, t0, t1⟩ := open2 (k := 3) Try.underlying37 rfl (by kernel_rfl) rfl (by kernel_rfl) cells37 h
  obtain ⟨d0, d1, d2, z0, z1, z2, m, rfl, u0, u1, u2⟩ := open3' Try.underlying35 (by kernel_rfl) cells35 t1
  obtain ⟨a, e, _, _⟩ := DataW.trod_int Try.underlying27 t0
  obtain ⟨a0, e0, _, _⟩ := DataW.trod_int Try.underlying5 u0
  obtain ⟨a1, e1, _, _⟩ := DataW.trod_int Try.underlying33 u1
  obtain ⟨a2, e2, _, _⟩ := DataW.trod_int Try.underlying33 u2
  simp only [List.cons.injEq, and_true] at e e0 e1 e2
  subst e; subst e0; subst e1; subst e2
  exact ⟨rfl, ⟨a, a0, a1, a2⟩, rfl⟩
theorem open_stamps {b0 : Nat} {v : Value} {d : DataW H} {p : List MemPlace} (hv : Value.okWide Try.prog W .any b0 32 v) (h : DataW.Trod enc Try.prog W 0 (fun _ => true) held 32 v d p) :
    ∃ (ao : Option Addr) (len cap : Nat) (l : List Q), v = .slice ao len cap ∧ len ≤ cap ∧ cap ≤ maxLen ∧ l.length = len ∧ Qs W ao l := by
  obtain ⟨ao, len, cap, D, rfl, h1, h2, h3, h4⟩ := open_rows (k := 4) Try.underlying32 cells37 (by decide) (fun cs => ∃ q : Q, cs = encQ q) (fun fuel cs x hx => stamp_open hx) hv h
  refine ⟨ao, len, cap, (List.range len).map fun i => if hi : i < len then Classical.choose (h4 i hi) else q0, rfl, h1, h2, by simp, fun i hi => ?_⟩
  have hi' : i < len := by simpa using hi
  obtain ⟨b, off, e, hb, hl, hc⟩ := h3 i hi'
  have hs := Classical.choose_spec (h4 i hi')
  have hd : ((List.range len).map fun i => if hi : i < len then Classical.choose (h4 i hi) else q0).getD i q0 = Classical.choose (h4 i hi') := by
    rw [List.getD_eq_getElem?_getD]
    simp [hi']
  simp only [hd]
  rw [← hs]
  exact ⟨b, off, e, hb, hl, hc⟩
end
end Go.Proofs.Ytfennglfmngeiaa.St
