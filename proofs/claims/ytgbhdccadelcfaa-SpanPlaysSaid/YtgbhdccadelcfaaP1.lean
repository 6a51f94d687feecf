/- A set of spans answers a script of deeds as the document says: proved for every list of deeds and every number, no condition. -/
import Derived.Test.YtgbhdccadelcfaaT8
import Derived.Test.YtgbhdccadelcfaaRow
namespace Go.Proofs.Ytgbhdccadelcfaa.Plays
open Go Go.ChangeShapes Go.WideShapes Go.ChangeAt Go.RowKit
open Go.Proofs.Ytgbhdccadelcfaa.Sp
section
variable {H : Type} {enc : TypeId × Value → H} {W : World} {base : Nat} {spare : Nat → Bool} {held : Bool}
theorem open_two {P : Program} {t : TypeId} {f0 f1 : Field} {k0 k1 : Nat} {fuel : Nat} {cs : List Value} {x : DataW H × List MemPlace} (hs : P.underlying t = some (.struct #[f0, f1])) (o0 : f0.offset = 0) (c0 : P.cellsOf f0.type = k0) (o1 : f1.offset = k0) (c1 : P.cellsOf f1.type = k1) (hC : P.cellsOf t = k0 + k1)
    (h : DataW.trod enc P W base spare held fuel t cs = some x) :
    ∃ (r s : List Value) (y0 y1 : DataW H × List MemPlace) (n : Nat), cs = r ++ s ∧ r.length = k0 ∧ s.length = k1 ∧ DataW.trod enc P W base spare held n f0.type r = some y0 ∧ DataW.trod enc P W base spare held n f1.type s = some y1 := by
  obtain ⟨xs, n, _, _, hlen, hxl, hg⟩ := DataW.trod_struct hs h
  rw [hC] at hlen
  match xs, hxl with
  | [y0, y1], _ =>
    refine ⟨cs.take k0, cs.drop k0, y0, y1, n, (List.take_append_drop _ _).symm, by rw [List.length_take]; omega, by rw [List.length_drop]; omega, ?_, ?_⟩
    · have := hg 0 f0 rfl
      rw [o0, c0] at this
      simpa using this
    · have := hg 1 f1 rfl
      rw [o1, c1, List.take_of_length_le (by rw [List.length_drop]; omega)] at this
      simpa using this
end
section
variable {H : Type} {enc : TypeId × Value → H} {W : World} {held : Bool}
def InT (d : Int × Int × Bool) : Prop := (0 ≤ d.1 ∧ d.1 ≤ 4294967295) ∧ (0 ≤ d.2.1 ∧ d.2.1 ≤ 4294967295)
set_option maxRecDepth 100000 in
theorem deed_open {fuel : Nat} {cs : List Value} {x : DataW H × List MemPlace} (h : DataW.trod enc Try.prog W 0 (fun _ => true) held fuel 33 cs = some x) : cs.length = 3 ∧ ∃ d : Int × Int × Bool, cs = [.int .u32 d.1, .int .u32 d.2.1, .bool d.2.2] ∧ InT d := by
  obtain ⟨r, s, y0, y1, n, rfl, hr, hs, t0, t1⟩ := open_two (k0 := 2) (k1 := 1) Try.underlying33 rfl cells31 rfl (by kernel_rfl) (by kernel_rfl) h
  obtain ⟨_, t, rfl, h0, h1⟩ := span_open t0
  obtain ⟨b, rfl, _⟩ := DataW.trod_bool Try.underlying4 t1
  exact ⟨rfl, ⟨t.1, t.2, b⟩, rfl, h0, h1⟩
set_option maxRecDepth 100000 in
/-- Deeds that came in. -/
theorem open_deeds {b0 : Nat} {v : Value} {d : DataW H} {p : List MemPlace} (hv : Value.okWide Try.prog W .any b0 22 v) (h : DataW.Trod enc Try.prog W 0 (fun _ => true) held 22 v d p) :
    ∃ (ao : Option Addr) (cap : Nat) (l : DL), v = .slice ao l.length cap ∧ l.length ≤ cap ∧ cap ≤ maxLen ∧ Rd3 W ao l ∧ ∀ d ∈ l, (0 ≤ d.1 ∧ d.1 ≤ 4294967295) ∧ (0 ≤ d.2.1 ∧ d.2.1 ≤ 4294967295) := by
  obtain ⟨ao, len, cap, D, rfl, h1, h2, h3, h4⟩ := open_rows (k := 3) Try.underlying22 (show Try.prog.cellsOf 33 = 3 by kernel_rfl) (by decide) (fun cs => ∃ d : Int × Int × Bool, cs = [.int .u32 d.1, .int .u32 d.2.1, .bool d.2.2] ∧ InT d) (fun fuel cs x hx => deed_open hx) hv h
  have hl : ((List.range len).map fun i => if hi : i < len then Classical.choose (h4 i hi) else (0, 0, false)).length = len := by simp
  have hat : ∀ i t, ((List.range len).map fun i => if hi : i < len then Classical.choose (h4 i hi) else (0, 0, false))[i]? = some t → ∃ hi : i < len, t = Classical.choose (h4 i hi) := by
    intro i t ht
    have hi : i < len := by
      have := (List.getElem?_eq_some_iff.1 ht).1
      rwa [hl] at this
    simp [hi] at ht
    exact ⟨hi, ht.symm⟩
  refine ⟨ao, cap, (List.range len).map fun i => if hi : i < len then Classical.choose (h4 i hi) else (0, 0, false), by rw [hl], by rw [hl]; exact h1, h2, fun i t ht => ?_, fun t ht => ?_⟩
  · obtain ⟨hi, rfl⟩ := hat i t ht
    have hs := Classical.choose_spec (h4 i hi)
    obtain ⟨b, off, e, hb, _, hc⟩ := h3 i hi
    refine ⟨b, off, e, hb, ?_, ?_, ?_⟩
    · have := hc 0 (by decide)
      rw [Nat.add_zero] at this
      exact this.trans (congrArg (fun l : List Value => l[0]?) hs.1)
    · exact (hc 1 (by decide)).trans (congrArg (fun l : List Value => l[1]?) hs.1)
    · exact (hc 2 (by decide)).trans (congrArg (fun l : List Value => l[2]?) hs.1)
  · obtain ⟨i, hget⟩ := List.getElem?_of_mem ht
    obtain ⟨hi, e⟩ := hat i t hget
    rw [e]
    exact (Classical.choose_spec (h4 i hi)).2
end
set_option maxRecDepth 100000 in
theorem lifted (os : Os) (started : os.Started) (H : Type) (enc : TypeId × Value → H) :
    ReturnsInHanded {} Try.checked os 3 .any (Rows.spanPlaysSpec.pre6 enc Try.prog Try.f3 Rows.spanPlaysRow.domain false) (Rows.spanPlaysSpec.post enc Try.prog Try.f3 false true false false) := by
  refine returnsInHanded_of_change (C := Try.checked) own started (by kernel_rfl) Try.func3
    (ChangeSpec.witness6 (enc := enc) (C := Try.checked) false ⟨#[], #[.slice none 0 0, .int .u32 0], []⟩ 8 (by kernel_rfl) (by kernel_rfl) (by kernel_rfl) (by kernel_rfl)) ?_
  intro W base args ds gs before hval0 hW hcnd _
  have hval : ∀ (j : Nat) t v, Try.f3.params[j]? = some t → args[j]? = some v → Value.okWide Try.prog W .any base t v := hval0
  have hW' := hW
  obtain ⟨p, q, hA0, hV, rfl, hfz, hnd⟩ := hW
  have hA : DataW.TrodAll enc Try.prog W 0 (fun _ => true) true Try.f3.params.toList args.toList ds p := hA0
  rw [Try.params3] at hA hval
  obtain ⟨v0, vs0, d0, ds0, p0, q0, hargs, rfl, rfl, h0, r0⟩ := trodAll_cons hA
  obtain ⟨v1, vs1, d1, ds1, p1, q1, rfl, rfl, rfl, h1, r1⟩ := trodAll_cons r0
  obtain ⟨rfl, rfl, rfl⟩ := trodAll_nil r1
  obtain rfl : args = #[v0, v1] := by cases args; simp_all
  obtain ⟨rfl, rfl⟩ := trodVars_none hV
  clear hA0 hval0
  simp only [List.append_nil] at hW'
  have walk : Calls Try.prog 3 #[v0, v1] W fun e w' => e = .returned (.bool true) ∧ Below W.heap.size W w' := by
    obtain ⟨ao, ca, l, rfl, x1, x2, x3, x4⟩ := open_deeds (hval 0 22 v0 rfl rfl) h0
    obtain ⟨n, rfl, _, _, wn⟩ := open_int Try.underlying23 (hval 1 23 v1 rfl rfl) h1
    exact plays_law ao ca l n W x3 x4 (Nat.le_trans x1 x2) (bounds_u32 wn)
  refine walk.mono fun e W' ⟨he, hb⟩ => ?_
  subst he
  refine ⟨_, rfl, law_true2 rfl (by kernel_rfl) rfl hW' hb ?_⟩
  rw [Try.params3]
  have hlt := fun x hx => hW'.lt x hx
  have back0 := Below.trod laid_out (by kernel_rfl) (of_decide_eq_true (by kernel_rfl)) h0 hb (fun x hx => hlt x (by simp [hx]))
  have back1 := Below.trod laid_out (by kernel_rfl) (of_decide_eq_true (by kernel_rfl)) h1 hb (fun x hx => hlt x (by simp [hx]))
  have := trodAll_cons_mk back0 (trodAll_cons_mk back1 (trodAll_mk0 (enc := enc) (P := Try.prog) (w := W')))
  rwa [List.append_nil] at this
theorem said : Rows.SpanPlaysSaid :=
  OpenClaim.holds_of_wide 3 Try.f3 rfl rfl rfl rfl rfl rfl rfl ⟨rfl, rfl, rfl, rfl, rfl⟩ rfl rfl rfl rfl rfl (by kernel_rfl) Try.func3 (by kernel_rfl)
    (of_decide_eq_true (by kernel_rfl)) (by unfold Func.isWrapper; first | (rw [if_pos (by decide +kernel)]; kernel_rfl) | (rw [if_neg (by decide +kernel)]; exact ⟨rfl, rfl⟩))
    (fun os started H enc _ => lifted os started H enc)
#print axioms said
end Go.Proofs.Ytgbhdccadelcfaa.Plays
