/- fault: what the rows on chains need: a chain that came in, opened; the table of powers. -/
import Derived.Test.YtkhnjgadagkpjaaDoorRow
import Derived.Test.YtkhnjgadagkpjaaDoorH3
namespace Go.Proofs.YtkhnjgadagkpjaaDoor.Flt
open Go Go.ChangeShapes Go.WideShapes Go.ChangeAt Go.RowKit Go.Joins Go.ChangeMaps Go.Deep
theorem gPow : Tryd.prog.globalNamed "internal/strconv.uint64pow10" = some 1 := by kernel_rfl
theorem gPowType : (Tryd.prog.globals[1]?).map (·.type) = some 122 := by kernel_rfl
theorem cells122 : Tryd.prog.cellsOf 122 = 20 := by kernel_rfl
theorem cells64 : Tryd.prog.cellsOf 64 = 1 := by kernel_rfl
theorem cells24 : Tryd.prog.cellsOf 24 = 2 := by kernel_rfl
theorem cells22 : Tryd.prog.cellsOf 22 = 1 := by kernel_rfl
/-- The table of powers stands third on a list. -/
theorem pow_third {W : World} {a b : String × DataW Unit} {rest : List (String × DataW Unit)}
    (h : laidMet Tryd.prog (a :: b :: ("internal/strconv.uint64pow10", Lib.tabData .u64 Lib.pow10Tab) :: rest) W) : Pow W := by
  obtain ⟨ps, ⟨_, _, _, _, _, _, _, _, _, _, ⟨_, _, _, _, _, _, _, _, _, _, ⟨g', t', cs, fuel, p, q, hg', ht', hvar, hd, _, _⟩, _⟩, _⟩, _⟩ := h
  obtain rfl := Option.some.inj (gPow.symm.trans hg')
  obtain rfl := Option.some.inj (gPowType.symm.trans ht')
  unfold Pow Lib.TabIs
  rw [hvar, ← Lib.cells_of_tab Tryd.underlying122 Tryd.underlying64 cells64 cells122 hd]
theorem pow_tab : (Rows.laid_internal_strconv_uint64pow10 (H := Unit)) = Lib.tabData .u64 Lib.pow10Tab := by rfl
/-- What the listed table gives a walk, there and behind. -/
theorem pow_of {W : World} (h : laidMetH Tryd.prog Rows.faultLastRow.laid W) : ∀ w', Below W.heap.size W w' → Pow w' := by
  have h' : laidMet Tryd.prog [("math/bits.deBruijn32tab", Rows.laid_math_bits_deBruijn32tab), ("math/bits.deBruijn64tab", Rows.laid_math_bits_deBruijn64tab), ("internal/strconv.uint64pow10", Rows.laid_internal_strconv_uint64pow10)] W ∧ handlesMet Tryd.prog [("errors.errorType", Rows.laid_errors_errorType)] W := h
  rw [pow_tab] at h'
  exact fun w' hb => tab_stays gPow (pow_third h'.1) hb (Nat.le_refl _)
section
variable {H : Type} {enc : TypeId × Value → H} {W : World} {held : Bool}
set_option maxRecDepth 100000 in
/-- A list that came in, of elements of k cells each. -/
theorem open_rows2 {t e k : Nat} (ht : Tryd.prog.underlying t = some (.slice e)) (hk : Tryd.prog.cellsOf e = k) (k0 : 0 < k) (Pp : List Value → Prop)
    (hel : ∀ (fuel : Nat) (cs : List Value) (x : DataW H × List MemPlace), DataW.trod enc Tryd.prog W 0 (fun _ => true) held fuel e cs = some x → cs.length = k ∧ Pp cs)
    {v : Value} {d : DataW H} {p : List MemPlace} (hv : ∃ a len cap, v = .slice a len cap) (h : DataW.Trod enc Tryd.prog W 0 (fun _ => true) held t v d p) :
    ∃ (ao : Option Addr) (len cap : Nat) (D : Nat → List Value), v = .slice ao len cap ∧ len ≤ cap ∧ cap ≤ maxLen ∧ Rq W ao k D len ∧ ∀ i, i < len → Pp (D i) := by
  obtain ⟨a, len, cap, rfl⟩ := hv
  obtain ⟨fuel, hf⟩ := h
  rcases open_slice ht hf with ⟨hcs, _⟩ | ⟨a', len', cap', m, n, D, Pl, hcs, _, hl, hm, hmm, _, hi⟩
  · simp only [Value.cells, List.cons.injEq, and_true] at hcs
    injection hcs with h1 h2 h3
    subst h1; subst h2; subst h3
    exact ⟨none, 0, 0, fun _ => [], rfl, Nat.le_refl _, Nat.zero_le _, fun i hi => absurd hi (Nat.not_lt_zero _), fun i hi => absurd hi (Nat.not_lt_zero _)⟩
  · simp only [Value.cells, List.cons.injEq, and_true] at hcs
    injection hcs with h1 h2 h3
    subst h1; subst h2; subst h3
    have hmc : m = cap := by rw [hmm]; rfl
    rw [hk] at hi
    have each : ∀ i, i < len → ∃ cs : List Value, (cs.length = k ∧ Pp cs) ∧ ∀ j, j < k → W.cell? ((a'.add (i * k)).add j) = cs[j]? := by
      intro i hil
      obtain ⟨cs', hc, hx⟩ := hi i (by omega)
      exact ⟨cs', hel _ _ _ hx, (World.cells?_some hc).2.2⟩
    refine ⟨some a', len, cap, fun i => if hil : i < len then Classical.choose (each i hil) else [], rfl, hl, hm, fun i hil => ?_, fun i hil => ?_⟩
    · have hcs := Classical.choose_spec (each i hil)
      simp only [dif_pos hil]
      generalize Classical.choose (each i hil) = csi at hcs ⊢
      obtain ⟨b, off, spot⟩ := a'
      have hsp : spot = none := by
        obtain ⟨cs0, hl0, hc0⟩ := each 0 (by omega)
        have := hc0 0 k0
        rw [List.getElem?_eq_getElem (by omega)] at this
        simp only [Nat.zero_mul, Addr.add, if_true] at this
        exact World.cell?_spot this
      subst hsp
      have hc : ∀ j, j < k → W.cell? ⟨b, off + i * k + j, none⟩ = csi[j]? := fun j hj => by
        have := hcs.2 j hj
        rwa [Go.WideShapes.add_plain, Go.WideShapes.add_plain] at this
      have hb : b < W.heap.size := by
        have := hc 0 k0
        rw [List.getElem?_eq_getElem (by omega)] at this
        exact World.block_lt_of_cell? W _ this
      exact ⟨b, off, rfl, hb, hcs.1.1, hc⟩
    · have hcs := Classical.choose_spec (each i hil)
      simp only [dif_pos hil]
      exact hcs.1.2
set_option maxRecDepth 100000 in
theorem open_links2 {v : Value} {d : DataW H} {p : List MemPlace} (hv : ∃ a len cap, v = .slice a len cap) (h : DataW.Trod enc Tryd.prog W 0 (fun _ => true) held 22 v d p) :
    ∃ (ao : Option Addr) (len cap : Nat) (X : Nat → Int × Int), v = .slice ao len cap ∧ len ≤ cap ∧ cap ≤ maxLen ∧ At2 W ao X len ∧ ∀ i, i < len → InR (X i) := by
  obtain ⟨ao, len, cap, D, rfl, h1, h2, h3, h4⟩ := open_rows2 (k := 2) Tryd.underlying22 cells42 (by decide) (fun cs => ∃ q : Int × Int, cs = [.int .i64 q.1, .int .u32 q.2] ∧ (-9223372036854775808 ≤ q.1 ∧ q.1 ≤ 9223372036854775807) ∧ (0 ≤ q.2 ∧ q.2 ≤ 4294967295)) (fun fuel cs x hx => by
    obtain ⟨hl, a, b, e, q⟩ := link_open hx
    exact ⟨hl, (a, b), e, q⟩) hv h
  refine ⟨ao, len, cap, fun i => if hi : i < len then Classical.choose (h4 i hi) else (0, 0), rfl, h1, h2, fun i hi => ?_, fun i hi => ?_⟩
  · obtain ⟨b, off, e, hb, hl, hc⟩ := h3 i hi
    have hs := Classical.choose_spec (h4 i hi)
    simp only [dif_pos hi]
    refine ⟨b, off, e, hb, (hc 0 (by decide)).trans (congrArg (fun l : List Value => l[0]?) hs.1), (hc 1 (by decide)).trans (congrArg (fun l : List Value => l[1]?) hs.1)⟩
  · have hs := Classical.choose_spec (h4 i hi)
    simp only [dif_pos hi]
    exact hs.2
set_option maxRecDepth 100000 in
/-- A chain that came in. -/
theorem open_chain {b0 : Nat} {v : Value} {d : DataW H} {p : List MemPlace} (hv : Value.okWide Tryd.prog W .any b0 24 v) (h : DataW.Trod enc Tryd.prog W 0 (fun _ => true) held 24 v d p) :
    ∃ (ao : Option Addr) (len cap : Nat) (X : Nat → Int × Int) (r : Int), v = .agg #[.slice ao len cap, .int .i64 r] ∧ len ≤ cap ∧ cap ≤ maxLen ∧ At2 W ao X len ∧ (∀ i, i < len → InR (X i)) ∧ -9223372036854775808 ≤ r ∧ r ≤ 9223372036854775807 := by
  obtain ⟨v0, v1, y0, y1, n, rfl, rfl, rfl, t0, t1⟩ := open_agg2 Tryd.underlying24 (by kernel_rfl) cells24 hv h
  obtain ⟨r, e1, _, w1⟩ := DataW.trod_int Tryd.underlying3 t1
  simp only [List.cons.injEq, and_true] at e1
  subst e1
  have q1 := bounds_i64 w1
  have hs : ∃ a len cap, v0 = .slice a len cap := by
    rcases open_slice Tryd.underlying22 t0 with ⟨hcs, _⟩ | ⟨a', len', cap', _, _, _, _, hcs, _⟩
    · simp only [List.cons.injEq, and_true] at hcs
      exact ⟨_, _, _, hcs⟩
    · simp only [List.cons.injEq, and_true] at hcs
      exact ⟨_, _, _, hcs⟩
  obtain ⟨ao, len, cap, X, rfl, h1, h2, h3, h4⟩ := open_links2 hs ⟨n, by obtain ⟨a, l, c, rfl⟩ := hs; simpa [Value.cells] using t0⟩
  exact ⟨ao, len, cap, X, r, rfl, h1, h2, h3, h4, q1.1, q1.2⟩
end
end Go.Proofs.YtkhnjgadagkpjaaDoor.Flt
