/- Scripts that come in, opened. -/
import Derived.Test.YtklalpamcfkngaaG4
import Derived.Test.YtklalpamcfkngaaRow
import Derived.SizedLaws
namespace Go.Proofs.Ytklalpamcfkngaa.Cm
open Go Go.ChangeShapes Go.WideShapes Go.ChangeAt Go.RowKit Go.Joins Go.ChangeMaps Go.Deep
section
variable {H : Type} {enc : TypeId × Value → H} {W : World} {held : Bool}
set_option maxRecDepth 100000 in
/-- A list that came in, of elements of k cells each, with what it reads as. -/
theorem open_rowsX {t e k fuel : Nat} (ht : Try.prog.underlying t = some (.slice e)) (hk : Try.prog.cellsOf e = k) (k0 : 0 < k) (Pp : List Value → DataW H → Prop)
    (hel : ∀ (fuel : Nat) (cs : List Value) (x : DataW H × List MemPlace), DataW.trod enc Try.prog W 0 (fun _ => true) held fuel e cs = some x → cs.length = k ∧ Pp cs x.1)
    {v : Value} {x : DataW H × List MemPlace} (hf : DataW.trod enc Try.prog W 0 (fun _ => true) held fuel t [v] = some x) :
    ∃ (ao : Option Addr) (len cap : Nat) (D : Nat → List Value) (E : Nat → DataW H), v = .slice ao len cap ∧ len ≤ cap ∧ cap ≤ maxLen ∧ (ao = none → cap = 0) ∧
      (∀ i, i < len → ∃ b off, ao = some ⟨b, off, none⟩ ∧ b < W.heap.size ∧ (D i).length = k ∧ ∀ j, j < k → W.cell? ⟨b, off + i * k + j, none⟩ = (D i)[j]?) ∧
      (∀ i, i < len → Pp (D i) (E i)) ∧ (len = 0 ∨ ∃ sp, x.1 = .slice ((List.range len).map E) sp) := by
  rcases open_slice ht hf with ⟨hcs, _⟩ | ⟨a', len', cap', m, n, E, Pl, hcs, _, hl, hm, hmm, hx, hi⟩
  · simp only [List.cons.injEq, and_true] at hcs
    subst hcs
    exact ⟨none, 0, 0, fun _ => [], fun _ => .nil, rfl, Nat.le_refl _, Nat.zero_le _, fun _ => rfl, fun i hi => absurd hi (Nat.not_lt_zero _), fun i hi => absurd hi (Nat.not_lt_zero _), .inl rfl⟩
  · simp only [List.cons.injEq, and_true] at hcs
    subst hcs
    have hmc : m = cap' := by rw [hmm]; rfl
    rw [hk] at hi
    have each : ∀ i, i < len' → ∃ cs : List Value, (cs.length = k ∧ Pp cs (E i)) ∧ ∀ j, j < k → W.cell? ((a'.add (i * k)).add j) = cs[j]? := by
      intro i hil
      obtain ⟨cs', hc, hx⟩ := hi i (by omega)
      exact ⟨cs', hel _ _ _ hx, (World.cells?_some hc).2.2⟩
    refine ⟨some a', len', cap', fun i => if hil : i < len' then Classical.choose (each i hil) else [], E, rfl, hl, hm, (fun e => by cases e), fun i hil => ?_, fun i hil => ?_, .inr ⟨_, by rw [hx]⟩⟩
    · have hcs := Classical.choose_spec (each i hil)
      simp only [dif_pos hil]
      generalize Classical.choose (each i hil) = csi at hcs ⊢
      obtain ⟨b, off, spot⟩ := a'
      have hsp : spot = none := by
        obtain ⟨cs0, hl0, hc0⟩ := each 0 (by omega)
        have := hc0 0 k0
        rw [List.getElem?_eq_getElem (by omega)] at this
        simp only [Nat.zero_mul, Addr.add, if_true] at this
        exact World.cell?_spot this
      subst hsp
      have hc : ∀ j, j < k → W.cell? ⟨b, off + i * k + j, none⟩ = csi[j]? := fun j hj => by
        have := hcs.2 j hj
        rwa [Go.WideShapes.add_plain, Go.WideShapes.add_plain] at this
      have hb : b < W.heap.size := by
        have := hc 0 k0
        rw [List.getElem?_eq_getElem (by omega)] at this
        exact World.block_lt_of_cell? W _ this
      exact ⟨b, off, rfl, hb, hcs.1.1, hc⟩
    · have hcs := Classical.choose_spec (each i hil)
      simp only [dif_pos hil]
      exact hcs.1.2
/-- Nothing that is read weighs more than reaches. -/
def Wt (t : TypeId) (d : DataW H) : Prop := ∀ n ∈ DataW.weights Try.prog t d, n ≤ reachBytes
theorem wt_mem {e : TypeId} : ∀ {es : List (DataW H)} {d : DataW H}, d ∈ es → ∀ n ∈ DataW.weights Try.prog e d, n ∈ DataW.weightsAll Try.prog e es
  | x :: es, d, h, n, hn => by
    simp only [DataW.weightsAll, List.mem_append]
    rcases List.mem_cons.1 h with rfl | h
    · exact .inl hn
    · exact .inr (wt_mem h n hn)
set_option maxRecDepth 100000 in
/-- Bytes that came in, inside. -/
theorem bytes_open {fuel : Nat} {v : Value} {x : DataW H × List MemPlace} (hf : DataW.trod enc Try.prog W 0 (fun _ => true) held fuel 34 [v] = some x) :
    ∃ (ao : Option Addr) (cap : Nat) (l : List Int), v = .slice ao l.length cap ∧ (ao = none → cap = 0) ∧ Rd W ao l ∧ (∀ k ∈ l, 0 ≤ k ∧ k ≤ 255) ∧ (Wt 34 x.1 → l.length + 3 ≤ 140737488355328) := by
  obtain ⟨ao, len, cap, D, E, rfl, h1, h2, h3, h4, h5, h6⟩ := open_rowsX (k := 1) Try.underlying34 (show Try.prog.cellsOf 5 = 1 by kernel_rfl) (by decide) (fun cs _ => ∃ n, cs = [.int .u8 n] ∧ 0 ≤ n ∧ n ≤ 255) (fun fuel cs x hx => by
    obtain ⟨n, rfl, _, hw⟩ := DataW.trod_int Try.underlying5 hx
    exact ⟨rfl, n, rfl, bounds_u8 hw⟩) hf
  have hl : ((List.range len).map fun i => if hi : i < len then Classical.choose (h5 i hi) else 0).length = len := by simp
  have hat : ∀ i t, ((List.range len).map fun i => if hi : i < len then Classical.choose (h5 i hi) else 0)[i]? = some t → ∃ hi : i < len, t = Classical.choose (h5 i hi) := by
    intro i t ht
    have hi : i < len := by
      have := (List.getElem?_eq_some_iff.1 ht).1
      rwa [hl] at this
    simp [hi] at ht
    exact ⟨hi, ht.symm⟩
  refine ⟨ao, cap, (List.range len).map fun i => if hi : i < len then Classical.choose (h5 i hi) else 0, by rw [hl], h3, fun i t ht => ?_, fun t ht => ?_, ?_⟩
  · obtain ⟨hi, e⟩ := hat i t ht
    have hs := Classical.choose_spec (h5 i hi)
    obtain ⟨b, off, e2, hb, _, hc⟩ := h4 i hi
    refine ⟨b, off, e2, hb, ?_⟩
    have := hc 0 (by decide)
    rw [Nat.mul_one, Nat.add_zero] at this
    rw [e]
    exact this.trans (congrArg (fun l : List Value => l[0]?) hs.1)
  · obtain ⟨i, hget⟩ := List.getElem?_of_mem ht
    obtain ⟨hi, e⟩ := hat i t hget
    rw [e]
    exact (Classical.choose_spec (h5 i hi)).2
  · intro hw
    rw [hl]
    rcases h6 with h | ⟨sp, h⟩
    · omega
    · rw [h] at hw
      have := hw ((((List.range len).map E).length + sp.length) * 1) (by simp only [DataW.weights, Try.underlying34, show Try.prog.bytesOf 5 = 1 by kernel_rfl]; exact List.mem_cons_self ..)
      simp only [List.length_map, List.length_range, reachBytes] at this
      omega
set_option maxRecDepth 100000 in
/-- A name that came in. -/
theorem name_open {fuel : Nat} {cs : List Value} {x : DataW H × List MemPlace} (h : DataW.trod enc Try.prog W 0 (fun _ => true) held fuel 33 cs = some x) : ∃ t : TK, InK t ∧ cs = encK t := by
  obtain ⟨xs, n, _, _, hlen, hxl, hg⟩ := DataW.trod_struct Try.underlying33 h
  rw [show Try.prog.cellsOf 33 = 3 by kernel_rfl] at hlen
  match cs, hlen, xs, hxl with
  | [c0, c1, c2], _, [y0, y1, y2], _ =>
    have t0 : DataW.trod enc Try.prog W 0 (fun _ => true) held n 5 [c0] = some y0 := by simpa [show Try.prog.cellsOf 5 = 1 by kernel_rfl] using hg 0 _ rfl
    have t1 : DataW.trod enc Try.prog W 0 (fun _ => true) held n 31 [c1] = some y1 := by simpa [show Try.prog.cellsOf 31 = 1 by kernel_rfl] using hg 1 _ rfl
    have t2 : DataW.trod enc Try.prog W 0 (fun _ => true) held n 31 [c2] = some y2 := by simpa [show Try.prog.cellsOf 31 = 1 by kernel_rfl] using hg 2 _ rfl
    obtain ⟨a, e0, _, w0⟩ := DataW.trod_int Try.underlying5 t0
    obtain ⟨b, e1, _, w1⟩ := DataW.trod_int Try.underlying31 t1
    obtain ⟨c, e2, _, w2⟩ := DataW.trod_int Try.underlying31 t2
    simp only [List.cons.injEq, and_true] at e0 e1 e2
    subst e0; subst e1; subst e2
    exact ⟨(a, b, c), ⟨bounds_u8 w0, bounds_u32 w1, bounds_u32 w2⟩, rfl⟩
set_option maxRecDepth 100000 in
/-- A call that came in. -/
theorem op_open {fuel : Nat} {cs : List Value} {x : DataW H × List MemPlace} (h : DataW.trod enc Try.prog W 0 (fun _ => true) held fuel 36 cs = some x) : cs.length = 8 ∧ ∃ o : OpI, cs = o.cells ∧ (Wt 36 x.1 → OkI W o) := by
  obtain ⟨xs, n, _, hx, hlen, hxl, hg⟩ := DataW.trod_struct Try.underlying36 h
  rw [show Try.prog.cellsOf 36 = 8 by kernel_rfl] at hlen
  match cs, hlen, xs, hxl with
  | [c0, c1, c2, c3, c4, c5, c6, c7], _, [y0, y1, y2, y3, y4, y5], _ =>
    have t0 : DataW.trod enc Try.prog W 0 (fun _ => true) held n 5 [c0] = some y0 := by simpa [show Try.prog.cellsOf 5 = 1 by kernel_rfl] using hg 0 _ rfl
    have t1 : DataW.trod enc Try.prog W 0 (fun _ => true) held n 33 [c1, c2, c3] = some y1 := by simpa [show Try.prog.cellsOf 33 = 3 by kernel_rfl] using hg 1 _ rfl
    have t2 : DataW.trod enc Try.prog W 0 (fun _ => true) held n 34 [c4] = some y2 := by simpa [show Try.prog.cellsOf 34 = 1 by kernel_rfl] using hg 2 _ rfl
    have t3 : DataW.trod enc Try.prog W 0 (fun _ => true) held n 5 [c5] = some y3 := by simpa [show Try.prog.cellsOf 5 = 1 by kernel_rfl] using hg 3 _ rfl
    have t4 : DataW.trod enc Try.prog W 0 (fun _ => true) held n 4 [c6] = some y4 := by simpa [show Try.prog.cellsOf 4 = 1 by kernel_rfl] using hg 4 _ rfl
    have t5 : DataW.trod enc Try.prog W 0 (fun _ => true) held n 3 [c7] = some y5 := by simpa [show Try.prog.cellsOf 3 = 1 by kernel_rfl] using hg 5 _ rfl
    obtain ⟨kd, e0, _, w0⟩ := DataW.trod_int Try.underlying5 t0
    obtain ⟨t, ht, e1⟩ := name_open t1
    obtain ⟨ao, cap, L, e2, b1, b2, b3, b4⟩ := bytes_open t2
    obtain ⟨z, e3, _, w3⟩ := DataW.trod_int Try.underlying5 t3
    obtain ⟨yes, e4, _⟩ := DataW.trod_bool Try.underlying4 t4
    obtain ⟨nn, e5, _, w5⟩ := DataW.trod_int Try.underlying3 t5
    simp only [encK, List.cons.injEq, and_true] at e0 e1 e3 e4 e5
    obtain ⟨f1, f2, f3⟩ := e1
    subst e0; subst f1; subst f2; subst f3; subst e2; subst e3; subst e4; subst e5
    refine ⟨rfl, ⟨kd, t, ao, L.length, cap, L, z, yes, nn⟩, rfl, fun hw => ⟨ht, (bounds_u8 w3).1, b3, rfl, b4 (fun n hn => hw n ?_), b2, b1⟩⟩
    rw [hx]
    simp only [DataW.weights, Try.underlying36, List.map_cons, List.map_nil, DataW.weightsEach, List.mem_append]
    exact .inr (.inr (.inl hn))
set_option maxRecDepth 100000 in
/-- A script that came in. -/
theorem open_ops {b0 : Nat} {v : Value} {d : DataW H} {p : List MemPlace} (hv : Value.okWide Try.prog W .any b0 22 v) (h : DataW.Trod enc Try.prog W 0 (fun _ => true) held 22 v d p) (hw : Wt 22 d) :
    ∃ (ao : Option Addr) (cap : Nat) (Os : List OpI), v = .slice ao Os.length cap ∧ Os.length ≤ cap ∧ cap ≤ maxLen ∧ (ao = none → cap = 0) ∧ RdO W ao Os ∧ ∀ o ∈ Os, OkI W o := by
  obtain ⟨a, len0, cap0, rfl⟩ := okWide_slice Try.underlying22 hv
  obtain ⟨fuel, hf⟩ := h
  simp only [Value.cells] at hf
  obtain ⟨ao, len, cap, D, E, ev, h1, h2, h3, h4, h5, h6⟩ := open_rowsX Try.underlying22 (show Try.prog.cellsOf 36 = 8 by kernel_rfl) (by decide) (fun cs d => ∃ o : OpI, cs = o.cells ∧ (Wt 36 d → OkI W o)) (fun fuel cs x hx => op_open hx) hf
  rw [ev]
  obtain ⟨z, hz⟩ : ∃ z : OpI, z = ⟨0, (0, 0, 0), none, 0, 0, [], 0, false, 0⟩ := ⟨_, rfl⟩
  have hl : ((List.range len).map fun i => if hi : i < len then Classical.choose (h5 i hi) else z).length = len := by simp
  have hat : ∀ i t, ((List.range len).map fun i => if hi : i < len then Classical.choose (h5 i hi) else z)[i]? = some t → ∃ hi : i < len, t = Classical.choose (h5 i hi) := by
    intro i t ht
    have hi : i < len := by
      have := (List.getElem?_eq_some_iff.1 ht).1
      rwa [hl] at this
    simp [hi] at ht
    exact ⟨hi, ht.symm⟩
  have hbd : ∀ i, i < len → Wt 36 (E i) := fun i hi n hn => by
    rcases h6 with h | ⟨sp, h⟩
    · omega
    · simp only at h
      rw [h] at hw
      refine hw n ?_
      simp only [DataW.weights, Try.underlying22]
      exact List.mem_cons_of_mem _ (List.mem_append_left _ (wt_mem (List.mem_map.2 ⟨i, List.mem_range.2 hi, rfl⟩) n hn))
  refine ⟨ao, cap, (List.range len).map fun i => if hi : i < len then Classical.choose (h5 i hi) else z, by rw [hl], by rw [hl]; exact h1, h2, h3, fun i t ht => ?_, fun t ht => ?_⟩
  · obtain ⟨hi, rfl⟩ := hat i t ht
    obtain ⟨hs, _⟩ := Classical.choose_spec (h5 i hi)
    obtain ⟨b, off, e, hb, _, hc⟩ := h4 i hi
    refine ⟨b, off, e, hb, fun j v hj => ?_⟩
    have hj8 : j < 8 := (List.getElem?_eq_some_iff.1 hj).1
    rw [hc j hj8, hs]
    exact hj
  · obtain ⟨i, hget⟩ := List.getElem?_of_mem ht
    obtain ⟨hi, e⟩ := hat i t hget
    rw [e]
    exact (Classical.choose_spec (h5 i hi)).2 (hbd i hi)
set_option maxRecDepth 100000 in
/-- A name that came in by itself. -/
theorem open_name {b0 : Nat} {v : Value} {d : DataW H} {p : List MemPlace} (hv : Value.okWide Try.prog W .any b0 33 v) (h : DataW.Trod enc Try.prog W 0 (fun _ => true) held 33 v d p) :
    ∃ t : TK, InK t ∧ v = .agg #[.int .u8 t.1, .int .u32 t.2.1, .int .u32 t.2.2] := by
  obtain ⟨c0, c1, c2, y0, y1, y2, m, rfl, rfl, rfl, hy0, hy1, hy2⟩ := open_agg3 Try.underlying33 (by kernel_rfl) (by kernel_rfl) hv h
  obtain ⟨a, e0, _, w0⟩ := DataW.trod_int Try.underlying5 hy0
  obtain ⟨b, e1, _, w1⟩ := DataW.trod_int Try.underlying31 hy1
  obtain ⟨c, e2, _, w2⟩ := DataW.trod_int Try.underlying31 hy2
  simp only [List.cons.injEq, and_true] at e0 e1 e2
  subst e0; subst e1; subst e2
  exact ⟨(a, b, c), ⟨bounds_u8 w0, bounds_u32 w1, bounds_u32 w2⟩, rfl⟩
end
end Go.Proofs.Ytklalpamcfkngaa.Cm
