/- Lists of bytes and of calls, opened. -/
import Derived.Test.YtjfbgihjgnbeeaaRow
import Derived.Test.YtjfbgihjgnbeeaaW12
import Derived.Deep.Strs
namespace Go.Proofs.Ytjfbgihjgnbeeaa.Pl
open Go Go.ChangeShapes Go.WideShapes Go.ChangeAt Go.RowKit Go.Joins Go.ChangeMaps Go.Deep
theorem cells33 : Try.prog.cellsOf 33 = 3 := by kernel_rfl
theorem cells5b : Try.prog.cellsOf 5 = 1 := by kernel_rfl
theorem cells3b : Try.prog.cellsOf 3 = 1 := by kernel_rfl
theorem cells31b : Try.prog.cellsOf 31 = 1 := by kernel_rfl
section
variable {H : Type} {enc : TypeId × Value → H} {W : World} {held : Bool}
set_option maxRecDepth 100000 in
/-- A list that came in, of elements of k cells each. -/
theorem open_rows2 {t e k : Nat} (ht : Try.prog.underlying t = some (.slice e)) (hk : Try.prog.cellsOf e = k) (k0 : 0 < k) (Pp : List Value → Prop)
    (hel : ∀ (fuel : Nat) (cs : List Value) (x : DataW H × List MemPlace), DataW.trod enc Try.prog W 0 (fun _ => true) held fuel e cs = some x → cs.length = k ∧ Pp cs)
    {fuel : Nat} {v : Value} {x : DataW H × List MemPlace} (hf : DataW.trod enc Try.prog W 0 (fun _ => true) held fuel t [v] = some x) :
    ∃ (ao : Option Addr) (len cap : Nat) (D : Nat → List Value), v = .slice ao len cap ∧ len ≤ cap ∧ cap ≤ maxLen ∧ Rq W ao k D len ∧ (∀ i, i < len → Pp (D i)) ∧ (ao = none → cap = 0) := by
  rcases open_slice ht hf with ⟨hcs, _⟩ | ⟨a', len, cap, m, n, D, Pl, hcs, _, hl, hm, hmm, _, hi⟩
  · simp only [List.cons.injEq, and_true] at hcs
    subst hcs
    exact ⟨none, 0, 0, fun _ => [], rfl, Nat.le_refl _, Nat.zero_le _, fun i hi => absurd hi (Nat.not_lt_zero _), fun i hi => absurd hi (Nat.not_lt_zero _), fun _ => rfl⟩
  · simp only [List.cons.injEq, and_true] at hcs
    subst hcs
    have hmc : m = cap := by rw [hmm]; rfl
    rw [hk] at hi
    have each : ∀ i, i < len → ∃ cs : List Value, (cs.length = k ∧ Pp cs) ∧ ∀ j, j < k → W.cell? ((a'.add (i * k)).add j) = cs[j]? := by
      intro i hil
      obtain ⟨cs', hc, hx⟩ := hi i (by omega)
      exact ⟨cs', hel _ _ _ hx, (World.cells?_some hc).2.2⟩
    refine ⟨some a', len, cap, fun i => if hil : i < len then Classical.choose (each i hil) else [], rfl, hl, hm, fun i hil => ?_, fun i hil => ?_, fun e => by cases e⟩
    · have hcs := Classical.choose_spec (each i hil)
      simp only [dif_pos hil]
      generalize Classical.choose (each i hil) = csi at hcs ⊢
      obtain ⟨b, off, spot⟩ := a'
      have hsp : spot = none := by
        obtain ⟨cs0, hl0, hc0⟩ := each 0 (by omega)
        have := hc0 0 k0
        rw [List.getElem?_eq_getElem (by omega)] at this
        simp only [Nat.zero_mul, Addr.add, if_true] at this
        exact World.cell?_spot this
      subst hsp
      have hc : ∀ j, j < k → W.cell? ⟨b, off + i * k + j, none⟩ = csi[j]? := fun j hj => by
        have := hcs.2 j hj
        rwa [Go.WideShapes.add_plain, Go.WideShapes.add_plain] at this
      have hb : b < W.heap.size := by
        have := hc 0 k0
        rw [List.getElem?_eq_getElem (by omega)] at this
        exact World.block_lt_of_cell? W _ this
      exact ⟨b, off, rfl, hb, hcs.1.1, hc⟩
    · have hcs := Classical.choose_spec (each i hil)
      simp only [dif_pos hil]
      exact hcs.1.2
/-- Bytes that came in. -/
theorem open_bytesV {fuel : Nat} {v : Value} {x : DataW H × List MemPlace} (hf : DataW.trod enc Try.prog W 0 (fun _ => true) held fuel 31 [v] = some x) :
    ∃ (ao : Option Addr) (len cap : Nat) (bs : List Value), v = .slice ao len cap ∧ bs.length = len ∧ len ≤ cap ∧ cap ≤ maxLen ∧ Src W ao bs ∧ (ao = none → cap = 0) := by
  obtain ⟨ao, len, cap, D, rfl, h1, h2, h3, h4, h5⟩ := open_rows2 (k := 1) Try.underlying31 cells5b (by decide) (fun cs => ∃ n : Int, cs = [.int .u8 n] ∧ 0 ≤ n ∧ n ≤ 255) (fun fuel cs x hx => by
    obtain ⟨n, rfl, _, w0⟩ := DataW.trod_int Try.underlying5 hx
    have := bounds_u8 w0
    exact ⟨rfl, n, rfl, this.1, this.2⟩) hf
  refine ⟨ao, len, cap, (List.range len).map fun i => (D i).headD undef, rfl, by simp, h1, h2, ⟨fun h0 => ?_, fun x hx => ?_⟩, h5⟩
  · simp only [List.length_map, List.length_range] at h0
    obtain ⟨b, off, e, _, _, _⟩ := h3 0 h0
    refine ⟨_, e, fun j u hu => ?_⟩
    have hj := (List.getElem?_eq_some_iff.1 hu).1
    simp only [List.length_map, List.length_range] at hj
    obtain ⟨b', off', e', hb, hl, hc⟩ := h3 j hj
    rw [e] at e'
    injection e' with e'
    injection e' with e1 e2
    subst e1; subst e2
    have := hc 0 (by decide)
    rw [Go.WideShapes.add_plain]
    rw [Nat.mul_one, Nat.add_zero] at this
    rw [this]
    obtain ⟨n, e3, _⟩ := h4 j hj
    rw [List.getElem?_map, List.getElem?_range hj] at hu
    simp only [Option.map_some, e3] at hu
    rw [e3]
    simpa using hu
  · obtain ⟨j, hj, rfl⟩ := List.mem_map.1 hx
    obtain ⟨n, e3, n0, n1⟩ := h4 j (List.mem_range.1 hj)
    exact ⟨n, by rw [e3]; rfl, n0, n1⟩
set_option maxRecDepth 100000 in
theorem op_open {fuel : Nat} {cs : List Value} {x : DataW H × List MemPlace} (h : DataW.trod enc Try.prog W 0 (fun _ => true) held fuel 33 cs = some x) :
    cs.length = 3 ∧ ∃ (o : OpV) (bo : Option Addr) (m c : Nat), cs = [.int .u8 o.kd, .int .i64 o.ix, .slice bo m c] ∧ o.bs.length = m ∧ m ≤ c ∧ c ≤ maxLen ∧ Src W bo o.bs ∧ (bo = none → c = 0) ∧ 0 ≤ o.kd ∧ o.kd ≤ 255 ∧ -9223372036854775808 ≤ o.ix ∧ o.ix ≤ 9223372036854775807 := by
  obtain ⟨y0, y1, y2, n, _, hl, t0, t1, t2⟩ := trod_struct3 Try.underlying33 h
  rw [cells33] at hl
  match cs, hl with
  | [c0, c1, c2], _ =>
    have t0' : DataW.trod enc Try.prog W 0 (fun _ => true) held n 5 [c0] = some y0 := by simpa [cells5b] using t0
    have t1' : DataW.trod enc Try.prog W 0 (fun _ => true) held n 3 [c1] = some y1 := by simpa [cells3b] using t1
    have t2' : DataW.trod enc Try.prog W 0 (fun _ => true) held n 31 [c2] = some y2 := by simpa [cells31b] using t2
    obtain ⟨a, e0, _, w0⟩ := DataW.trod_int Try.underlying5 t0'
    obtain ⟨b, e1, _, w1⟩ := DataW.trod_int Try.underlying3 t1'
    obtain ⟨bo, m, c, bs, rfl, h1, h2, h3, h4, h5⟩ := open_bytesV t2'
    simp only [List.cons.injEq, and_true] at e0 e1
    subst e0; subst e1
    have q0 := bounds_u8 w0
    have q1 := bounds_i64 w1
    exact ⟨rfl, ⟨a, b, bs⟩, bo, m, c, rfl, h1, h2, h3, h4, h5, q0.1, q0.2, q1.1, q1.2⟩
set_option maxRecDepth 100000 in
/-- Calls that came in. -/
theorem open_ops {b0 : Nat} {v : Value} {d : DataW H} {p : List MemPlace} (hv : Value.okWide Try.prog W .any b0 22 v) (h : DataW.Trod enc Try.prog W 0 (fun _ => true) held 22 v d p) :
    ∃ (ao : Option Addr) (n c : Nat) (L : List OpV), v = .slice ao n c ∧ L.length = n ∧ n ≤ maxLen ∧ OpsAt W ao L ∧ ∀ o ∈ L, 0 ≤ o.kd ∧ o.kd ≤ 255 ∧ -9223372036854775808 ≤ o.ix ∧ o.ix ≤ 9223372036854775807 := by
  obtain ⟨a, len, cap, rfl⟩ := okWide_slice Try.underlying22 hv
  obtain ⟨fuel, hf⟩ := h
  obtain ⟨ao, len, cap, D, e, h1, h2, h3, h4, _⟩ := open_rows2 (k := 3) Try.underlying22 cells33 (by decide) _ (fun fuel cs x hx => op_open hx) (by simpa [Value.cells] using hf)
  refine ⟨ao, len, cap, (List.range len).attach.map fun i => Classical.choose (h4 i.1 (List.mem_range.1 i.2)), e, by simp, by omega, fun k o ho => ?_, fun o ho => ?_⟩
  · have hk := (List.getElem?_eq_some_iff.1 ho).1
    simp only [List.length_map, List.length_attach, List.length_range] at hk
    obtain ⟨b, off, e', hb, hl, hc⟩ := h3 k hk
    have ho' : Classical.choose (h4 k hk) = o := by
      have := ho
      rw [List.getElem?_eq_getElem (by simpa using hk)] at this
      simpa using this
    obtain ⟨bo, m, c, e1, s1, s2, s3, s4, s5, _⟩ := Classical.choose_spec (h4 k hk)
    rw [ho'] at e1 s1 s4
    have c0 := hc 0 (by decide)
    have c1 := hc 1 (by decide)
    have c2 := hc 2 (by decide)
    rw [e1] at c0 c1 c2
    exact ⟨b, off, bo, m, c, e', hb, c0, c1, c2, s1, s2, s3, s4, s5⟩
  · obtain ⟨i, _, rfl⟩ := List.mem_map.1 ho
    obtain ⟨bo, m, c, _, _, _, _, _, _, s⟩ := Classical.choose_spec (h4 i.1 (List.mem_range.1 i.2))
    exact s
set_option maxRecDepth 100000 in
theorem open_bytes {b0 : Nat} {v : Value} {d : DataW H} {p : List MemPlace} (hv : Value.okWide Try.prog W .any b0 31 v) (h : DataW.Trod enc Try.prog W 0 (fun _ => true) held 31 v d p) :
    ∃ (ao : Option Addr) (len cap : Nat) (bs : List Value), v = .slice ao len cap ∧ bs.length = len ∧ len ≤ cap ∧ cap ≤ maxLen ∧ Src W ao bs ∧ (ao = none → cap = 0) := by
  obtain ⟨a, len, cap, rfl⟩ := okWide_slice Try.underlying31 hv
  obtain ⟨fuel, hf⟩ := h
  exact open_bytesV (by simpa [Value.cells] using hf)
end
end Go.Proofs.Ytjfbgihjgnbeeaa.Pl
