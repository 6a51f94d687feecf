/- Numbers that come one by one, in any order, leave no more spans than there are gaps among them, and all of them together one: proved for every first number and every list of bytes, no condition. -/
import Derived.Test.YtgbhdccadelcfaaT7
import Derived.Test.YtgbhdccadelcfaaRow
namespace Go.Proofs.Ytgbhdccadelcfaa.Few
open Go Go.ChangeShapes Go.WideShapes Go.ChangeAt Go.RowKit
open Go.Proofs.Ytgbhdccadelcfaa.Sp
section
variable {H : Type} {enc : TypeId × Value → H} {W : World} {held : Bool}
set_option maxRecDepth 100000 in
/-- Bytes that came in. -/
theorem open_bytes {b0 : Nat} {v : Value} {d : DataW H} {p : List MemPlace} (hv : Value.okWide Try.prog W .any b0 60 v) (h : DataW.Trod enc Try.prog W 0 (fun _ => true) held 60 v d p) :
    ∃ (ao : Option Addr) (cap : Nat) (l : List Int), v = .slice ao l.length cap ∧ l.length ≤ cap ∧ cap ≤ maxLen ∧ Rb W ao l ∧ ∀ k ∈ l, 0 ≤ k ∧ k ≤ 255 := by
  obtain ⟨ao, len, cap, D, rfl, h1, h2, h3, h4⟩ := open_rows (k := 1) Try.underlying60 (show Try.prog.cellsOf 5 = 1 by kernel_rfl) (by decide) (fun cs => ∃ n, cs = [.int .u8 n] ∧ 0 ≤ n ∧ n ≤ 255) (fun fuel cs x hx => by
    obtain ⟨n, rfl, _, hw⟩ := DataW.trod_int Try.underlying5 hx
    exact ⟨rfl, n, rfl, bounds_u8 hw⟩) hv h
  have hl : ((List.range len).map fun i => if hi : i < len then Classical.choose (h4 i hi) else 0).length = len := by simp
  have hat : ∀ i t, ((List.range len).map fun i => if hi : i < len then Classical.choose (h4 i hi) else 0)[i]? = some t → ∃ hi : i < len, t = Classical.choose (h4 i hi) := by
    intro i t ht
    have hi : i < len := by
      have := (List.getElem?_eq_some_iff.1 ht).1
      rwa [hl] at this
    simp [hi] at ht
    exact ⟨hi, ht.symm⟩
  refine ⟨ao, cap, (List.range len).map fun i => if hi : i < len then Classical.choose (h4 i hi) else 0, by rw [hl], by rw [hl]; exact h1, h2, fun i t ht => ?_, fun t ht => ?_⟩
  · obtain ⟨hi, e⟩ := hat i t ht
    have hs := Classical.choose_spec (h4 i hi)
    obtain ⟨b, off, e2, hb, _, hc⟩ := h3 i hi
    refine ⟨b, off, e2, hb, ?_⟩
    have := hc 0 (by decide)
    rw [Nat.mul_one, Nat.add_zero] at this
    rw [e]
    exact this.trans (congrArg (fun l : List Value => l[0]?) hs.1)
  · obtain ⟨i, hget⟩ := List.getElem?_of_mem ht
    obtain ⟨hi, e⟩ := hat i t hget
    rw [e]
    exact (Classical.choose_spec (h4 i hi)).2
end
set_option maxRecDepth 100000 in
theorem lifted (os : Os) (started : os.Started) (H : Type) (enc : TypeId × Value → H) :
    ReturnsInHanded {} Try.checked os 5 .any (Rows.spanFewSpec.pre6 enc Try.prog Try.f5 Rows.spanFewRow.domain false) (Rows.spanFewSpec.post enc Try.prog Try.f5 false true false false) := by
  refine returnsInHanded_of_change (C := Try.checked) own started (by kernel_rfl) Try.func5
    (ChangeSpec.witness6 (enc := enc) (C := Try.checked) false ⟨#[], #[.int .u32 0, .slice none 0 0], []⟩ 8 (by kernel_rfl) (by kernel_rfl) (by kernel_rfl) (by kernel_rfl)) ?_
  intro W base args ds gs before hval0 hW hcnd _
  have hval : ∀ (j : Nat) t v, Try.f5.params[j]? = some t → args[j]? = some v → Value.okWide Try.prog W .any base t v := hval0
  have hW' := hW
  obtain ⟨p, q, hA0, hV, rfl, hfz, hnd⟩ := hW
  have hA : DataW.TrodAll enc Try.prog W 0 (fun _ => true) true Try.f5.params.toList args.toList ds p := hA0
  rw [Try.params5] at hA hval
  obtain ⟨v0, vs0, d0, ds0, p0, q0, hargs, rfl, rfl, h0, r0⟩ := trodAll_cons hA
  obtain ⟨v1, vs1, d1, ds1, p1, q1, rfl, rfl, rfl, h1, r1⟩ := trodAll_cons r0
  obtain ⟨rfl, rfl, rfl⟩ := trodAll_nil r1
  obtain rfl : args = #[v0, v1] := by cases args; simp_all
  obtain ⟨rfl, rfl⟩ := trodVars_none hV
  clear hA0 hval0
  simp only [List.append_nil] at hW'
  have walk : Calls Try.prog 5 #[v0, v1] W fun e w' => e = .returned (.bool true) ∧ Below W.heap.size W w' := by
    obtain ⟨n, rfl, _, _, wn⟩ := open_int Try.underlying23 (hval 0 23 v0 rfl rfl) h0
    obtain ⟨ao, ca, l, rfl, x1, x2, x3, x4⟩ := open_bytes (hval 1 60 v1 rfl rfl) h1
    exact few_law n ao ca l W (bounds_u32 wn).1 x3 x4 (Nat.le_trans x1 x2)
  refine walk.mono fun e W' ⟨he, hb⟩ => ?_
  subst he
  refine ⟨_, rfl, law_true2 rfl (by kernel_rfl) rfl hW' hb ?_⟩
  rw [Try.params5]
  have hlt := fun x hx => hW'.lt x hx
  have back0 := Below.trod laid_out (by kernel_rfl) (of_decide_eq_true (by kernel_rfl)) h0 hb (fun x hx => hlt x (by simp [hx]))
  have back1 := Below.trod laid_out (by kernel_rfl) (of_decide_eq_true (by kernel_rfl)) h1 hb (fun x hx => hlt x (by simp [hx]))
  have := trodAll_cons_mk back0 (trodAll_cons_mk back1 (trodAll_mk0 (enc := enc) (P := Try.prog) (w := W')))
  rwa [List.append_nil] at this
theorem said : Rows.SpanFewSaid :=
  OpenClaim.holds_of_wide 5 Try.f5 rfl rfl rfl rfl rfl rfl rfl ⟨rfl, rfl, rfl, rfl, rfl⟩ rfl rfl rfl rfl rfl (by kernel_rfl) Try.func5 (by kernel_rfl)
    (of_decide_eq_true (by kernel_rfl)) (by unfold Func.isWrapper; first | (rw [if_pos (by decide +kernel)]; kernel_rfl) | (rw [if_neg (by decide +kernel)]; exact ⟨rfl, rfl⟩))
    (fun os started H enc _ => lifted os started H enc)
#print axioms said
end Go.Proofs.Ytgbhdccadelcfaa.Few
