/- What every row of this seat needs: its arguments opened, the end of a law. -/
import Derived.Test.YtapofbiflkfocaaB3
import Derived.Test.YtapofbiflkfocaaRows
import Derived.ProofKit
import Derived.OpenShut
import Derived.Deep.Slices
import Derived.Deep.Fields
import Derived.Carry
import Derived.Lib.SmallJoins
namespace Go.Proofs.Ytapofbiflkfocaa.Cr
open Go Go.ChangeShapes Go.WideShapes Go.ChangeAt Go.RowKit Go.Joins Go.ChangeMaps Go.Deep
theorem own : ownKnob Try.prog.godebug = none := by kernel_rfl
theorem laid_out : laidOutB Try.prog = true := by kernel_rfl
set_option maxRecDepth 100000 in
/-- The end of a law: the call answered true, and below what was there nothing has turned. -/
theorem law_true2 {H : Type} {enc : TypeId × Value → H} {f : Func} {s : ChangeSpec} {W W' : World} {args : Array Value} {ds : List (DataW H)} {pa : List MemPlace}
    (hvars : s.vars = []) (hres : f.resultTypes = #[4]) (hspec : s.fn H ds = { results := [.lit (.bool true)], args := ds })
    (hW : DataW.Whole enc Try.prog f.params.toList s.vars false W args.toList ds [] pa) (hb : Below W.heap.size W W')
    (hargs : DataW.TrodAll enc Try.prog W' 0 (fun b => decide (b < W.heap.size)) true f.params.toList args.toList ds pa) :
    s.post enc Try.prog f false true false false W args (.bool true) W' := by
  have bool4 : ∀ (b : Nat) (sp : Nat → Bool) (hd : Bool), DataW.TrodAll enc Try.prog W' b sp hd f.resultTypes.toList ((Value.bool true).resultList f.resultTypes.size) [.lit (.bool true)] [] := by
    intro b sp hd; rw [hres]; exact trodAll_cons_mk (shut_bool Try.underlying4 _) trodAll_mk0
  have none4 : ∀ sp : Nat → Bool, DataW.TrodVars enc Try.prog W' sp s.vars [] [] := by intro sp; rw [hvars]; rfl
  have e : s.fn H (ds ++ []) = { results := [.lit (.bool true)], args := ds } := by rw [List.append_nil]; exact hspec
  exact ⟨ds, [], pa, [], pa, [], hW, by rw [e]; exact bool4 _ _ _, by rw [e]; exact hargs, by rw [e]; exact none4 _, World.keptBut_mono (fun p hp => ⟨hp, .inr (.inl hp)⟩) (hb.frame (· ∈ pa)), fun h => by cases h⟩
/-- From an address on rows of k cells stand, in a block that is there. -/
def Rq (w : World) (ao : Option Addr) (k : Nat) (D : Nat → List Value) (n : Nat) : Prop :=
  ∀ i, i < n → ∃ b off, ao = some ⟨b, off, none⟩ ∧ b < w.heap.size ∧ (D i).length = k ∧ ∀ j, j < k → w.cell? ⟨b, off + i * k + j, none⟩ = (D i)[j]?
theorem Rq.on {w w' : World} {ao : Option Addr} {k : Nat} {D : Nat → List Value} {n : Nat} (h : Rq w ao k D n) {B : Nat} (hb : Below B w w') (hB : w.heap.size ≤ B) : Rq w' ao k D n := by
  intro i hi
  obtain ⟨b, off, h1, h2, h3, h4⟩ := h i hi
  exact ⟨b, off, h1, Nat.lt_of_lt_of_le h2 hb.size, h3, fun j hj => (hb.cell (p := ⟨b, off + i * k + j, none⟩) (Nat.lt_of_lt_of_le h2 hB)).trans (h4 j hj)⟩
section
variable {H : Type} {enc : TypeId × Value → H} {W : World} {held : Bool}
set_option maxRecDepth 100000 in
/-- A list that came in, of elements of k cells each. -/
theorem open_rows {t e k : Nat} (ht : Try.prog.underlying t = some (.slice e)) (hk : Try.prog.cellsOf e = k) (k0 : 0 < k) (Pp : List Value → Prop)
    (hel : ∀ (fuel : Nat) (cs : List Value) (x : DataW H × List MemPlace), DataW.trod enc Try.prog W 0 (fun _ => true) held fuel e cs = some x → cs.length = k ∧ Pp cs)
    {b0 : Nat} {v : Value} {d : DataW H} {p : List MemPlace} (hv : Value.okWide Try.prog W .any b0 t v) (h : DataW.Trod enc Try.prog W 0 (fun _ => true) held t v d p) :
    ∃ (ao : Option Addr) (len cap : Nat) (D : Nat → List Value), v = .slice ao len cap ∧ len ≤ cap ∧ cap ≤ maxLen ∧ Rq W ao k D len ∧ ∀ i, i < len → Pp (D i) := by
  obtain ⟨a, len, cap, rfl⟩ := okWide_slice ht hv
  obtain ⟨fuel, hf⟩ := h
  rcases open_slice ht hf with ⟨hcs, _⟩ | ⟨a', len', cap', m, n, D, Pl, hcs, _, hl, hm, hmm, _, hi⟩
  · simp only [Value.cells, List.cons.injEq, and_true] at hcs
    injection hcs with h1 h2 h3
    subst h1; subst h2; subst h3
    exact ⟨none, 0, 0, fun _ => [], rfl, Nat.le_refl _, Nat.zero_le _, fun i hi => absurd hi (Nat.not_lt_zero _), fun i hi => absurd hi (Nat.not_lt_zero _)⟩
  · simp only [Value.cells, List.cons.injEq, and_true] at hcs
    injection hcs with h1 h2 h3
    subst h1; subst h2; subst h3
    have hmc : m = cap := by rw [hmm]; rfl
    rw [hk] at hi
    have each : ∀ i, i < len → ∃ cs : List Value, (cs.length = k ∧ Pp cs) ∧ ∀ j, j < k → W.cell? ((a'.add (i * k)).add j) = cs[j]? := by
      intro i hil
      obtain ⟨cs', hc, hx⟩ := hi i (by omega)
      exact ⟨cs', hel _ _ _ hx, (World.cells?_some hc).2.2⟩
    refine ⟨some a', len, cap, fun i => if hil : i < len then Classical.choose (each i hil) else [], rfl, hl, hm, fun i hil => ?_, fun i hil => ?_⟩
    · have hcs := Classical.choose_spec (each i hil)
      simp only [dif_pos hil]
      generalize Classical.choose (each i hil) = csi at hcs ⊢
      obtain ⟨b, off, spot⟩ := a'
      have hsp : spot = none := by
        obtain ⟨cs0, hl0, hc0⟩ := each 0 (by omega)
        have := hc0 0 k0
        rw [List.getElem?_eq_getElem (by omega)] at this
        simp only [Nat.zero_mul, Addr.add, if_true] at this
        exact World.cell?_spot this
      subst hsp
      have hc : ∀ j, j < k → W.cell? ⟨b, off + i * k + j, none⟩ = csi[j]? := fun j hj => by
        have := hcs.2 j hj
        rwa [Go.WideShapes.add_plain, Go.WideShapes.add_plain] at this
      have hb : b < W.heap.size := by
        have := hc 0 k0
        rw [List.getElem?_eq_getElem (by omega)] at this
        exact World.block_lt_of_cell? W _ this
      exact ⟨b, off, rfl, hb, hcs.1.1, hc⟩
    · have hcs := Classical.choose_spec (each i hil)
      simp only [dif_pos hil]
      exact hcs.1.2
end
section
variable {H : Type} {enc : TypeId × Value → H} {W : World} {held : Bool}
set_option maxRecDepth 100000 in
/-- Bytes that came in. -/
theorem open_bytes {b0 : Nat} {v : Value} {d : DataW H} {p : List MemPlace} (hv : Value.okWide Try.prog W .any b0 30 v) (h : DataW.Trod enc Try.prog W 0 (fun _ => true) held 30 v d p) :
    ∃ (ao : Option Addr) (cap : Nat) (l : List Int), v = .slice ao l.length cap ∧ l.length ≤ cap ∧ cap ≤ maxLen ∧ Rd W ao l ∧ ∀ k ∈ l, 0 ≤ k ∧ k ≤ 255 := by
  obtain ⟨ao, len, cap, D, rfl, h1, h2, h3, h4⟩ := open_rows (k := 1) Try.underlying30 (show Try.prog.cellsOf 5 = 1 by kernel_rfl) (by decide) (fun cs => ∃ n, cs = [.int .u8 n] ∧ 0 ≤ n ∧ n ≤ 255) (fun fuel cs x hx => by
    obtain ⟨n, rfl, _, hw⟩ := DataW.trod_int Try.underlying5 hx
    exact ⟨rfl, n, rfl, bounds_u8 hw⟩) hv h
  have hl : ((List.range len).map fun i => if hi : i < len then Classical.choose (h4 i hi) else 0).length = len := by simp
  have hat : ∀ i t, ((List.range len).map fun i => if hi : i < len then Classical.choose (h4 i hi) else 0)[i]? = some t → ∃ hi : i < len, t = Classical.choose (h4 i hi) := by
    intro i t ht
    have hi : i < len := by
      have := (List.getElem?_eq_some_iff.1 ht).1
      rwa [hl] at this
    simp [hi] at ht
    exact ⟨hi, ht.symm⟩
  refine ⟨ao, cap, (List.range len).map fun i => if hi : i < len then Classical.choose (h4 i hi) else 0, by rw [hl], by rw [hl]; exact h1, h2, fun i t ht => ?_, fun t ht => ?_⟩
  · obtain ⟨hi, e⟩ := hat i t ht
    have hs := Classical.choose_spec (h4 i hi)
    obtain ⟨b, off, e2, hb, _, hc⟩ := h3 i hi
    refine ⟨b, off, e2, hb, ?_⟩
    have := hc 0 (by decide)
    rw [Nat.mul_one, Nat.add_zero] at this
    rw [e]
    exact this.trans (congrArg (fun l : List Value => l[0]?) hs.1)
  · obtain ⟨i, hget⟩ := List.getElem?_of_mem ht
    obtain ⟨hi, e⟩ := hat i t hget
    rw [e]
    exact (Classical.choose_spec (h4 i hi)).2
end
end Go.Proofs.Ytapofbiflkfocaa.Cr
