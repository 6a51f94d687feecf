/- Every script of keys has the document's answers, in order, and pages that are neither too full nor too empty, and what is answered is new memory: proved for every script and every two ends, no condition. -/
import Derived.Test.YthjcohaldjfniaaV1
import Derived.Test.YthjcohaldjfniaaRow
namespace Go.Proofs.Ythjcohaldjfniaa.Plays
open Go Go.ChangeShapes Go.WideShapes Go.ChangeAt Go.RowKit
open Go.Proofs.Ythjcohaldjfniaa.Ix
section
open Go.Joins Go.ChangeMaps Go.Deep
variable {H : Type} {enc : TypeId × Value → H} {W : World} {base : Nat} {spare : Nat → Bool} {held : Bool}
theorem open3 {P : Program} {t : TypeId} {f0 f1 f2 : Field} {fuel : Nat} {cs : List Value} {x : DataW H × List MemPlace} (hs : P.underlying t = some (.struct #[f0, f1, f2])) (hone : oneCellFields P #[f0, f1, f2] = true) (hC : P.cellsOf t = 3)
    (h : DataW.trod enc P W base spare held fuel t cs = some x) :
    ∃ (c0 c1 c2 : Value) (y0 y1 y2 : DataW H × List MemPlace) (n : Nat), cs = [c0, c1, c2] ∧ DataW.trod enc P W base spare held n f0.type [c0] = some y0 ∧ DataW.trod enc P W base spare held n f1.type [c1] = some y1 ∧ DataW.trod enc P W base spare held n f2.type [c2] = some y2 := by
  obtain ⟨xs, n, _, _, hlen, hxl, hg⟩ := DataW.trod_struct hs h
  rw [hC] at hlen
  obtain ⟨o0, k0⟩ := hone_of hone 0 f0 rfl
  obtain ⟨o1, k1⟩ := hone_of hone 1 f1 rfl
  obtain ⟨o2, k2⟩ := hone_of hone 2 f2 rfl
  match cs, hlen, xs, hxl with
  | [c0, c1, c2], _, [y0, y1, y2], _ =>
    exact ⟨c0, c1, c2, y0, y1, y2, n, rfl, by simpa [o0, k0] using hg 0 f0 rfl, by simpa [o1, k1] using hg 1 f1 rfl, by simpa [o2, k2] using hg 2 f2 rfl⟩
theorem cells32 : Try.prog.cellsOf 32 = 3 := by kernel_rfl
set_option maxRecDepth 100000 in
theorem deed_open {fuel : Nat} {cs : List Value} {x : DataW H × List MemPlace} (h : DataW.trod enc Try.prog W 0 (fun _ => true) held fuel 32 cs = some x) : cs.length = 3 ∧ ∃ d : Int × Int × Int, cs = [.int .u8 d.1, .int .u64 d.2.1, .int .u64 d.2.2] ∧ d.2.1 ≤ 18446744073709551615 := by
  obtain ⟨c0, c1, c2, y0, y1, y2, n, rfl, t0, t1, t2⟩ := open3 Try.underlying32 (by kernel_rfl) cells32 h
  obtain ⟨k, e0, _, w0⟩ := DataW.trod_int Try.underlying5 t0
  obtain ⟨m, e1, _, w1⟩ := DataW.trod_int Try.underlying23 t1
  obtain ⟨r, e2, _, w2⟩ := DataW.trod_int Try.underlying23 t2
  simp only [List.cons.injEq, and_true] at e0 e1 e2
  subst e0 e1 e2
  exact ⟨rfl, ⟨k, m, r⟩, rfl, (bounds_u64 w1).2⟩
set_option maxRecDepth 100000 in
/-- Deeds that came in. -/
theorem open_deeds {b0 : Nat} {v : Value} {d : DataW H} {p : List MemPlace} (hv : Value.okWide Try.prog W .any b0 22 v) (h : DataW.Trod enc Try.prog W 0 (fun _ => true) held 22 v d p) :
    ∃ (ao : Option Addr) (cap : Nat) (l : List (Int × Int × Int)), v = .slice ao l.length cap ∧ l.length ≤ cap ∧ cap ≤ maxLen ∧ Ro W ao l ∧ ∀ d ∈ l, d.2.1 ≤ 18446744073709551615 := by
  obtain ⟨ao, len, cap, D, rfl, h1, h2, h3, h4⟩ := open_rows (k := 3) Try.underlying22 (show Try.prog.cellsOf 32 = 3 by kernel_rfl) (by decide) (fun cs => ∃ d : Int × Int × Int, cs = [.int .u8 d.1, .int .u64 d.2.1, .int .u64 d.2.2] ∧ d.2.1 ≤ 18446744073709551615) (fun fuel cs x hx => deed_open hx) hv h
  have hl : ((List.range len).map fun i => if hi : i < len then Classical.choose (h4 i hi) else (0, 0, 0)).length = len := by simp
  have hat : ∀ i t, ((List.range len).map fun i => if hi : i < len then Classical.choose (h4 i hi) else (0, 0, 0))[i]? = some t → ∃ hi : i < len, t = Classical.choose (h4 i hi) := by
    intro i t ht
    have hi : i < len := by
      have := (List.getElem?_eq_some_iff.1 ht).1
      rwa [hl] at this
    simp [hi] at ht
    exact ⟨hi, ht.symm⟩
  refine ⟨ao, cap, (List.range len).map fun i => if hi : i < len then Classical.choose (h4 i hi) else (0, 0, 0), by rw [hl], by rw [hl]; exact h1, h2, fun i t ht => ?_, fun t ht => ?_⟩
  · obtain ⟨hi, rfl⟩ := hat i t ht
    have hs := Classical.choose_spec (h4 i hi)
    obtain ⟨b, off, e, hb, _, hc⟩ := h3 i hi
    refine ⟨b, off, e, hb, ?_, ?_, ?_⟩
    · have := hc 0 (by decide)
      rw [Nat.add_zero] at this
      exact this.trans (congrArg (fun l : List Value => l[0]?) hs.1)
    · exact (hc 1 (by decide)).trans (congrArg (fun l : List Value => l[1]?) hs.1)
    · exact (hc 2 (by decide)).trans (congrArg (fun l : List Value => l[2]?) hs.1)
  · obtain ⟨i, hget⟩ := List.getElem?_of_mem ht
    obtain ⟨hi, e⟩ := hat i t hget
    rw [e]
    exact (Classical.choose_spec (h4 i hi)).2
end
set_option maxRecDepth 100000 in
theorem lifted (os : Os) (started : os.Started) (H : Type) (enc : TypeId × Value → H) :
    ReturnsInHanded {} Try.checked os 3 .any (Rows.indexPlaysSpec.pre6 enc Try.prog Try.f3 Rows.indexPlaysRow.domain false) (Rows.indexPlaysSpec.post enc Try.prog Try.f3 false true false false) := by
  refine returnsInHanded_of_change (C := Try.checked) own started (by kernel_rfl) Try.func3
    (ChangeSpec.witness6 (enc := enc) (C := Try.checked) false ⟨#[], #[.slice none 0 0, .int .u64 0, .int .u64 0], []⟩ 8 (by kernel_rfl) (by kernel_rfl) (by kernel_rfl) (by kernel_rfl)) ?_
  intro W base args ds gs before hval0 hW hcnd _
  have hval : ∀ (j : Nat) t v, Try.f3.params[j]? = some t → args[j]? = some v → Value.okWide Try.prog W .any base t v := hval0
  have hW' := hW
  obtain ⟨p, q, hA0, hV, rfl, hfz, hnd⟩ := hW
  have hA : DataW.TrodAll enc Try.prog W 0 (fun _ => true) true Try.f3.params.toList args.toList ds p := hA0
  rw [Try.params3] at hA hval
  obtain ⟨v0, vs0, d0, ds0, p0, q0, hargs, rfl, rfl, h0, r0⟩ := trodAll_cons hA
  obtain ⟨v1, vs1, d1, ds1, p1, q1, rfl, rfl, rfl, h1, r1⟩ := trodAll_cons r0
  obtain ⟨v2, vs2, d2, ds2, p2, q2, rfl, rfl, rfl, h2, r2⟩ := trodAll_cons r1
  obtain ⟨rfl, rfl, rfl⟩ := trodAll_nil r2
  obtain rfl : args = #[v0, v1, v2] := by cases args; simp_all
  obtain ⟨rfl, rfl⟩ := trodVars_none hV
  clear hA0 hval0
  simp only [List.append_nil] at hW'
  have walk : Calls Try.prog 3 #[v0, v1, v2] W fun e w' => e = .returned (.bool true) ∧ Below W.heap.size W w' := by
    obtain ⟨ao, ca, l, rfl, x1, x2, x3, x4⟩ := open_deeds (hval 0 22 v0 rfl rfl) h0
    obtain ⟨k, rfl, _, _, wk⟩ := open_int Try.underlying23 (hval 1 23 v1 rfl rfl) h1
    obtain ⟨n, rfl, _, _, wn⟩ := open_int Try.underlying23 (hval 2 23 v2 rfl rfl) h2
    exact plays_law ao ca l k n W x3 x4 x1 x2
  refine walk.mono fun e W' ⟨he, hb⟩ => ?_
  subst he
  refine ⟨_, rfl, law_true2 rfl (by kernel_rfl) rfl hW' hb ?_⟩
  rw [Try.params3]
  have hlt := fun x hx => hW'.lt x hx
  have back0 := Below.trod laid_out (by kernel_rfl) (of_decide_eq_true (by kernel_rfl)) h0 hb (fun x hx => hlt x (by simp [hx]))
  have back1 := Below.trod laid_out (by kernel_rfl) (of_decide_eq_true (by kernel_rfl)) h1 hb (fun x hx => hlt x (by simp [hx]))
  have back2 := Below.trod laid_out (by kernel_rfl) (of_decide_eq_true (by kernel_rfl)) h2 hb (fun x hx => hlt x (by simp [hx]))
  have := trodAll_cons_mk back0 (trodAll_cons_mk back1 (trodAll_cons_mk back2 (trodAll_mk0 (enc := enc) (P := Try.prog) (w := W'))))
  rwa [List.append_nil] at this
theorem said : Rows.IndexPlaysSaid :=
  OpenClaim.holds_of_wide 3 Try.f3 rfl rfl rfl rfl rfl rfl rfl ⟨rfl, rfl, rfl, rfl, rfl⟩ rfl rfl rfl rfl rfl (by kernel_rfl) Try.func3 (by kernel_rfl)
    (of_decide_eq_true (by kernel_rfl)) (by unfold Func.isWrapper; first | (rw [if_pos (by decide +kernel)]; kernel_rfl) | (rw [if_neg (by decide +kernel)]; exact ⟨rfl, rfl⟩))
    (fun os started H enc _ => lifted os started H enc)
#print axioms said
end Go.Proofs.Ythjcohaldjfniaa.Plays
