/- fault: what every row of this seat needs: the handle listed, its arguments opened, a world for the witness. -/
import Derived.Test.YtkhnjgadagkpjaaDoorCards
import Derived.Test.YtkhnjgadagkpjaaDoorTie
import Derived.Test.YtkhnjgadagkpjaaDoorG8
import Derived.ProofKit
import Derived.OpenShut
import Derived.LaidMore
import Derived.LaidLaws
import Derived.LaidHandle
import Derived.SevenTiedAt
import Derived.Deep.DeepHandedRow
import Derived.Deep.Slices
import Derived.Deep.Fields
import Derived.Carry
import Derived.Lib.SmallJoins
import Derived.Stop.Joined
namespace Go.Proofs.YtkhnjgadagkpjaaDoor.Flt
open Go Go.ChangeShapes Go.WideShapes Go.ChangeAt Go.RowKit Go.Joins Go.ChangeMaps Go.Deep
theorem own : ownKnob Tryd.prog.godebug = none := by kernel_rfl
theorem laid_out : laidOutB Tryd.prog = true := by kernel_rfl
theorem cells3i : Tryd.prog.cellsOf 3 = 1 := by kernel_rfl
theorem cells40i : Tryd.prog.cellsOf 40 = 1 := by kernel_rfl
theorem cells42 : Tryd.prog.cellsOf 42 = 2 := by kernel_rfl
theorem gErr : Tryd.prog.globalNamed "errors.errorType" = some 0 := by kernel_rfl
theorem rtErr : (Tryd.prog.cutTypes.find? (·.1 == "internal/reflectlite.rtype")).map (·.2) = some 116 := by kernel_rfl
theorem nTypes : Tryd.prog.types.size = 162 := by kernel_rfl
theorem oneErr : ((List.range 162).filter fun t => Tryd.prog.rowNamed t [101, 114, 114, 111, 114]) = [27] := by kernel_rfl
/-- What the listed handle gives a walk. -/
theorem errT_of {W : World} (h : laidMetH Tryd.prog Rows.faultLastRow.laid W) : ErrT W := by
  have h' : laidMet Tryd.prog [("math/bits.deBruijn32tab", Rows.laid_math_bits_deBruijn32tab), ("math/bits.deBruijn64tab", Rows.laid_math_bits_deBruijn64tab), ("internal/strconv.uint64pow10", Rows.laid_internal_strconv_uint64pow10)] W ∧ handlesMet Tryd.prog [("errors.errorType", Rows.laid_errors_errorType)] W := h
  obtain ⟨name, u, ty, e1, e2, e3, e4, e5⟩ := h'.2 _ (List.mem_singleton.2 rfl)
  have en : name = [101, 114, 114, 111, 114] := (Option.some.inj e1).symm
  subst en
  obtain rfl := Option.some.inj (rtErr.symm.trans e2)
  have hm : ty ∈ (List.range 162).filter fun t => Tryd.prog.rowNamed t [101, 114, 114, 111, 114] := List.mem_filter.2 ⟨List.mem_range.2 (by rw [← nTypes]; exact e3), e4⟩
  rw [oneErr] at hm
  obtain rfl := List.mem_singleton.1 hm
  have hh : typeHandle Tryd.prog 27 = .pointer (some ⟨4, 27, none⟩) := by kernel_rfl
  rw [hh] at e5
  have := World.var?_cell gErr e5 0
  unfold ErrT
  simpa using this
/-- The heap that the program's own door leaves. -/
noncomputable def doorW (os : Os) : World := World.doorLaid Tryd.prog 4000 os
theorem door (os : Os) (args : Array Value) : laidMetH Tryd.prog Rows.faultLastRow.laid ((doorW os).forCall (fun _ _ => 0) ⟨#[], args, []⟩).memory :=
  laidMetH_of_parts (laidMet_of_run' 8 (by kernel_rfl) (by kernel_rfl)) (by kernel_rfl)
set_option maxRecDepth 100000 in
/-- The end of a law: the call answered true, and below what was there nothing has turned. -/
theorem law_true2 {H : Type} {enc : TypeId × Value → H} {f : Func} {s : ChangeSpec} {W W' : World} {args : Array Value} {ds : List (DataW H)} {pa : List MemPlace}
    (hvars : s.vars = []) (hres : f.resultTypes = #[4]) (hspec : s.fn H ds = { results := [.lit (.bool true)], args := ds })
    (hW : DataW.Whole enc Tryd.prog f.params.toList s.vars false W args.toList ds [] pa) (hb : Below W.heap.size W W')
    (hargs : DataW.TrodAll enc Tryd.prog W' 0 (fun b => decide (b < W.heap.size)) true f.params.toList args.toList ds pa) :
    s.post enc Tryd.prog f false true false false W args (.bool true) W' := by
  have bool4 : ∀ (b : Nat) (sp : Nat → Bool) (hd : Bool), DataW.TrodAll enc Tryd.prog W' b sp hd f.resultTypes.toList ((Value.bool true).resultList f.resultTypes.size) [.lit (.bool true)] [] := by
    intro b sp hd; rw [hres]; exact trodAll_cons_mk (shut_bool Tryd.underlying4 _) trodAll_mk0
  have none4 : ∀ sp : Nat → Bool, DataW.TrodVars enc Tryd.prog W' sp s.vars [] [] := by intro sp; rw [hvars]; rfl
  have e : s.fn H (ds ++ []) = { results := [.lit (.bool true)], args := ds } := by rw [List.append_nil]; exact hspec
  exact ⟨ds, [], pa, [], pa, [], hW, by rw [e]; exact bool4 _ _ _, by rw [e]; exact hargs, by rw [e]; exact none4 _, World.keptBut_mono (fun p hp => ⟨hp, .inr (.inl hp)⟩) (hb.frame (· ∈ pa)), fun h => by cases h⟩
/-- From an address on rows of k cells stand, in a block that is there. -/
def Rq (w : World) (ao : Option Addr) (k : Nat) (D : Nat → List Value) (n : Nat) : Prop :=
  ∀ i, i < n → ∃ b off, ao = some ⟨b, off, none⟩ ∧ b < w.heap.size ∧ (D i).length = k ∧ ∀ j, j < k → w.cell? ⟨b, off + i * k + j, none⟩ = (D i)[j]?
theorem Rq.on {w w' : World} {ao : Option Addr} {k : Nat} {D : Nat → List Value} {n : Nat} (h : Rq w ao k D n) {B : Nat} (hb : Below B w w') (hB : w.heap.size ≤ B) : Rq w' ao k D n := by
  intro i hi
  obtain ⟨b, off, h1, h2, h3, h4⟩ := h i hi
  exact ⟨b, off, h1, Nat.lt_of_lt_of_le h2 hb.size, h3, fun j hj => (hb.cell (p := ⟨b, off + i * k + j, none⟩) (Nat.lt_of_lt_of_le h2 hB)).trans (h4 j hj)⟩
section
variable {H : Type} {enc : TypeId × Value → H} {W : World} {held : Bool}
set_option maxRecDepth 100000 in
/-- A list that came in, of elements of k cells each. -/
theorem open_rows {t e k : Nat} (ht : Tryd.prog.underlying t = some (.slice e)) (hk : Tryd.prog.cellsOf e = k) (k0 : 0 < k) (Pp : List Value → Prop)
    (hel : ∀ (fuel : Nat) (cs : List Value) (x : DataW H × List MemPlace), DataW.trod enc Tryd.prog W 0 (fun _ => true) held fuel e cs = some x → cs.length = k ∧ Pp cs)
    {b0 : Nat} {v : Value} {d : DataW H} {p : List MemPlace} (hv : Value.okWide Tryd.prog W .any b0 t v) (h : DataW.Trod enc Tryd.prog W 0 (fun _ => true) held t v d p) :
    ∃ (ao : Option Addr) (len cap : Nat) (D : Nat → List Value), v = .slice ao len cap ∧ len ≤ cap ∧ cap ≤ maxLen ∧ Rq W ao k D len ∧ ∀ i, i < len → Pp (D i) := by
  obtain ⟨a, len, cap, rfl⟩ := okWide_slice ht hv
  obtain ⟨fuel, hf⟩ := h
  rcases open_slice ht hf with ⟨hcs, _⟩ | ⟨a', len', cap', m, n, D, Pl, hcs, _, hl, hm, hmm, _, hi⟩
  · simp only [Value.cells, List.cons.injEq, and_true] at hcs
    injection hcs with h1 h2 h3
    subst h1; subst h2; subst h3
    exact ⟨none, 0, 0, fun _ => [], rfl, Nat.le_refl _, Nat.zero_le _, fun i hi => absurd hi (Nat.not_lt_zero _), fun i hi => absurd hi (Nat.not_lt_zero _)⟩
  · simp only [Value.cells, List.cons.injEq, and_true] at hcs
    injection hcs with h1 h2 h3
    subst h1; subst h2; subst h3
    have hmc : m = cap := by rw [hmm]; rfl
    rw [hk] at hi
    have each : ∀ i, i < len → ∃ cs : List Value, (cs.length = k ∧ Pp cs) ∧ ∀ j, j < k → W.cell? ((a'.add (i * k)).add j) = cs[j]? := by
      intro i hil
      obtain ⟨cs', hc, hx⟩ := hi i (by omega)
      exact ⟨cs', hel _ _ _ hx, (World.cells?_some hc).2.2⟩
    refine ⟨some a', len, cap, fun i => if hil : i < len then Classical.choose (each i hil) else [], rfl, hl, hm, fun i hil => ?_, fun i hil => ?_⟩
    · have hcs := Classical.choose_spec (each i hil)
      simp only [dif_pos hil]
      generalize Classical.choose (each i hil) = csi at hcs ⊢
      obtain ⟨b, off, spot⟩ := a'
      have hsp : spot = none := by
        obtain ⟨cs0, hl0, hc0⟩ := each 0 (by omega)
        have := hc0 0 k0
        rw [List.getElem?_eq_getElem (by omega)] at this
        simp only [Nat.zero_mul, Addr.add, if_true] at this
        exact World.cell?_spot this
      subst hsp
      have hc : ∀ j, j < k → W.cell? ⟨b, off + i * k + j, none⟩ = csi[j]? := fun j hj => by
        have := hcs.2 j hj
        rwa [Go.WideShapes.add_plain, Go.WideShapes.add_plain] at this
      have hb : b < W.heap.size := by
        have := hc 0 k0
        rw [List.getElem?_eq_getElem (by omega)] at this
        exact World.block_lt_of_cell? W _ this
      exact ⟨b, off, rfl, hb, hcs.1.1, hc⟩
    · have hcs := Classical.choose_spec (each i hil)
      simp only [dif_pos hil]
      exact hcs.1.2
set_option maxRecDepth 100000 in
theorem link_open {fuel : Nat} {cs : List Value} {x : DataW H × List MemPlace} (h : DataW.trod enc Tryd.prog W 0 (fun _ => true) held fuel 42 cs = some x) : cs.length = 2 ∧ ∃ a b, cs = [.int .i64 a, .int .u32 b] ∧ (-9223372036854775808 ≤ a ∧ a ≤ 9223372036854775807) ∧ (0 ≤ b ∧ b ≤ 4294967295) := by
  obtain ⟨y0, y1, n, _, hl, t0, t1⟩ := trod_struct2 Tryd.underlying42 h
  rw [cells42] at hl
  match cs, hl with
  | [c0, c1], _ =>
    have t0' : DataW.trod enc Tryd.prog W 0 (fun _ => true) held n 3 [c0] = some y0 := by simpa [cells3i] using t0
    have t1' : DataW.trod enc Tryd.prog W 0 (fun _ => true) held n 40 [c1] = some y1 := by simpa [cells40i] using t1
    obtain ⟨a, e0, _, w0⟩ := DataW.trod_int Tryd.underlying3 t0'
    obtain ⟨b, e1, _, w1⟩ := DataW.trod_int Tryd.underlying40 t1'
    simp only [List.cons.injEq, and_true] at e0 e1
    subst e0; subst e1
    have q0 := bounds_i64 w0
    have q1 := bounds_u32 w1
    exact ⟨rfl, a, b, rfl, q0, q1⟩
set_option maxRecDepth 100000 in
theorem open_links {b0 : Nat} {v : Value} {d : DataW H} {p : List MemPlace} (hv : Value.okWide Tryd.prog W .any b0 22 v) (h : DataW.Trod enc Tryd.prog W 0 (fun _ => true) held 22 v d p) :
    ∃ (ao : Option Addr) (len cap : Nat) (X : Nat → Int × Int), v = .slice ao len cap ∧ len ≤ cap ∧ cap ≤ maxLen ∧ At2 W ao X len ∧ ∀ i, i < len → (-9223372036854775808 ≤ (X i).1 ∧ (X i).1 ≤ 9223372036854775807) ∧ (0 ≤ (X i).2 ∧ (X i).2 ≤ 4294967295) := by
  obtain ⟨ao, len, cap, D, rfl, h1, h2, h3, h4⟩ := open_rows (k := 2) Tryd.underlying22 cells42 (by decide) (fun cs => ∃ q : Int × Int, cs = [.int .i64 q.1, .int .u32 q.2] ∧ (-9223372036854775808 ≤ q.1 ∧ q.1 ≤ 9223372036854775807) ∧ (0 ≤ q.2 ∧ q.2 ≤ 4294967295)) (fun fuel cs x hx => by
    obtain ⟨hl, a, b, e, q⟩ := link_open hx
    exact ⟨hl, (a, b), e, q⟩) hv h
  refine ⟨ao, len, cap, fun i => if hi : i < len then Classical.choose (h4 i hi) else (0, 0), rfl, h1, h2, fun i hi => ?_, fun i hi => ?_⟩
  · obtain ⟨b, off, e, hb, hl, hc⟩ := h3 i hi
    have hs := Classical.choose_spec (h4 i hi)
    simp only [dif_pos hi]
    refine ⟨b, off, e, hb, (hc 0 (by decide)).trans (congrArg (fun l : List Value => l[0]?) hs.1), (hc 1 (by decide)).trans (congrArg (fun l : List Value => l[1]?) hs.1)⟩
  · have hs := Classical.choose_spec (h4 i hi)
    simp only [dif_pos hi]
    exact hs.2
end
end Go.Proofs.YtkhnjgadagkpjaaDoor.Flt
