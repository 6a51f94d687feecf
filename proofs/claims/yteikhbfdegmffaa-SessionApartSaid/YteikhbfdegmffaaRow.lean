/- What session's rows need: their arguments opened, the end of a law. -/
import Derived.Test.YteikhbfdegmffaaC2
import Derived.Test.YteikhbfdegmffaaC4
import Derived.Test.YteikhbfdegmffaaRows
import Derived.ProofKit
import Derived.OpenShut
import Derived.Deep.Slices
import Derived.Deep.Fields
import Derived.Carry
import Derived.Lib.SmallJoins
import Derived.SizedLaws
namespace Go.Proofs.Yteikhbfdegmffaa.Se
open Go Go.ChangeShapes Go.WideShapes Go.ChangeAt Go.RowKit Go.Joins Go.ChangeMaps Go.Deep
theorem own : ownKnob Try.prog.godebug = none := by kernel_rfl
theorem laid_out : laidOutB Try.prog = true := by kernel_rfl
set_option maxRecDepth 100000 in
/-- The end of a law: the call answered true, and below what was there nothing has turned. -/
theorem law_true2 {H : Type} {enc : TypeId × Value → H} {f : Func} {s : ChangeSpec} {W W' : World} {args : Array Value} {ds : List (DataW H)} {pa : List MemPlace}
    (hvars : s.vars = []) (hres : f.resultTypes = #[4]) (hspec : s.fn H ds = { results := [.lit (.bool true)], args := ds })
    (hW : DataW.Whole enc Try.prog f.params.toList s.vars false W args.toList ds [] pa) (hb : Below W.heap.size W W')
    (hargs : DataW.TrodAll enc Try.prog W' 0 (fun b => decide (b < W.heap.size)) true f.params.toList args.toList ds pa) :
    s.post enc Try.prog f false true false false W args (.bool true) W' := by
  have bool4 : ∀ (b : Nat) (sp : Nat → Bool) (hd : Bool), DataW.TrodAll enc Try.prog W' b sp hd f.resultTypes.toList ((Value.bool true).resultList f.resultTypes.size) [.lit (.bool true)] [] := by
    intro b sp hd; rw [hres]; exact trodAll_cons_mk (shut_bool Try.underlying4 _) trodAll_mk0
  have none4 : ∀ sp : Nat → Bool, DataW.TrodVars enc Try.prog W' sp s.vars [] [] := by intro sp; rw [hvars]; rfl
  have e : s.fn H (ds ++ []) = { results := [.lit (.bool true)], args := ds } := by rw [List.append_nil]; exact hspec
  exact ⟨ds, [], pa, [], pa, [], hW, by rw [e]; exact bool4 _ _ _, by rw [e]; exact hargs, by rw [e]; exact none4 _, World.keptBut_mono (fun p hp => ⟨hp, .inr (.inl hp)⟩) (hb.frame (· ∈ pa)), fun h => by cases h⟩
section
variable {H : Type} {enc : TypeId × Value → H} {W : World} {held : Bool}
set_option maxRecDepth 100000 in
/-- A list that came in, of elements of k cells each, with what it reads as. -/
theorem open_rows {t e k fuel : Nat} (ht : Try.prog.underlying t = some (.slice e)) (hk : Try.prog.cellsOf e = k) (k0 : 0 < k) (Pp : List Value → DataW H → Prop)
    (hel : ∀ (fuel : Nat) (cs : List Value) (x : DataW H × List MemPlace), DataW.trod enc Try.prog W 0 (fun _ => true) held fuel e cs = some x → cs.length = k ∧ Pp cs x.1)
    {v : Value} {x : DataW H × List MemPlace} (hf : DataW.trod enc Try.prog W 0 (fun _ => true) held fuel t [v] = some x) :
    ∃ (ao : Option Addr) (len cap : Nat) (D : Nat → List Value) (E : Nat → DataW H), v = .slice ao len cap ∧ len ≤ cap ∧ cap ≤ maxLen ∧ (ao = none → cap = 0) ∧
      (∀ i, i < len → ∃ b off, ao = some ⟨b, off, none⟩ ∧ b < W.heap.size ∧ (D i).length = k ∧ ∀ j, j < k → W.cell? ⟨b, off + i * k + j, none⟩ = (D i)[j]?) ∧
      (∀ i, i < len → Pp (D i) (E i)) ∧ (len = 0 ∨ ∃ sp, x.1 = .slice ((List.range len).map E) sp) := by
  rcases open_slice ht hf with ⟨hcs, _⟩ | ⟨a', len', cap', m, n, E, Pl, hcs, _, hl, hm, hmm, hx, hi⟩
  · simp only [List.cons.injEq, and_true] at hcs
    subst hcs
    exact ⟨none, 0, 0, fun _ => [], fun _ => .nil, rfl, Nat.le_refl _, Nat.zero_le _, fun _ => rfl, fun i hi => absurd hi (Nat.not_lt_zero _), fun i hi => absurd hi (Nat.not_lt_zero _), .inl rfl⟩
  · simp only [List.cons.injEq, and_true] at hcs
    subst hcs
    have hmc : m = cap' := by rw [hmm]; rfl
    rw [hk] at hi
    have each : ∀ i, i < len' → ∃ cs : List Value, (cs.length = k ∧ Pp cs (E i)) ∧ ∀ j, j < k → W.cell? ((a'.add (i * k)).add j) = cs[j]? := by
      intro i hil
      obtain ⟨cs', hc, hx⟩ := hi i (by omega)
      exact ⟨cs', hel _ _ _ hx, (World.cells?_some hc).2.2⟩
    refine ⟨some a', len', cap', fun i => if hil : i < len' then Classical.choose (each i hil) else [], E, rfl, hl, hm, (fun e => by cases e), fun i hil => ?_, fun i hil => ?_, .inr ⟨_, by rw [hx]⟩⟩
    · have hcs := Classical.choose_spec (each i hil)
      simp only [dif_pos hil]
      generalize Classical.choose (each i hil) = csi at hcs ⊢
      obtain ⟨b, off, spot⟩ := a'
      have hsp : spot = none := by
        obtain ⟨cs0, hl0, hc0⟩ := each 0 (by omega)
        have := hc0 0 k0
        rw [List.getElem?_eq_getElem (by omega)] at this
        simp only [Nat.zero_mul, Addr.add, if_true] at this
        exact World.cell?_spot this
      subst hsp
      have hc : ∀ j, j < k → W.cell? ⟨b, off + i * k + j, none⟩ = csi[j]? := fun j hj => by
        have := hcs.2 j hj
        rwa [Go.WideShapes.add_plain, Go.WideShapes.add_plain] at this
      have hb : b < W.heap.size := by
        have := hc 0 k0
        rw [List.getElem?_eq_getElem (by omega)] at this
        exact World.block_lt_of_cell? W _ this
      exact ⟨b, off, rfl, hb, hcs.1.1, hc⟩
    · have hcs := Classical.choose_spec (each i hil)
      simp only [dif_pos hil]
      exact hcs.1.2
/-- Nothing that is read weighs more than reaches. -/
def Wt (t : TypeId) (d : DataW H) : Prop := ∀ n ∈ DataW.weights Try.prog t d, n ≤ reachBytes
theorem wt_mem {e : TypeId} : ∀ {es : List (DataW H)} {d : DataW H}, d ∈ es → ∀ n ∈ DataW.weights Try.prog e d, n ∈ DataW.weightsAll Try.prog e es
  | x :: es, d, h, n, hn => by
    simp only [DataW.weightsAll, List.mem_append]
    rcases List.mem_cons.1 h with rfl | h
    · exact .inl hn
    · exact .inr (wt_mem h n hn)
set_option maxRecDepth 100000 in
/-- A value that came in. -/
theorem val_open {fuel : Nat} {cs : List Value} {x : DataW H × List MemPlace} (h : DataW.trod enc Try.prog W 0 (fun _ => true) held fuel 59 cs = some x) : cs.length = 3 ∧ ∃ t : VT, cs = vc t ∧ (Wt 59 x.1 → t.2.2.size ≤ 281474976710656) := by
  obtain ⟨xs, n, _, hx, hlen, hxl, hg⟩ := DataW.trod_struct Try.underlying59 h
  rw [show Try.prog.cellsOf 59 = 3 by kernel_rfl] at hlen
  match cs, hlen, xs, hxl with
  | [c0, c1, c2], _, [y0, y1, y2], _ =>
    have t0 : DataW.trod enc Try.prog W 0 (fun _ => true) held n 5 [c0] = some y0 := by simpa [show Try.prog.cellsOf 5 = 1 by kernel_rfl] using hg 0 _ rfl
    have t1 : DataW.trod enc Try.prog W 0 (fun _ => true) held n 2 [c1] = some y1 := by simpa [show Try.prog.cellsOf 2 = 1 by kernel_rfl] using hg 1 _ rfl
    have t2 : DataW.trod enc Try.prog W 0 (fun _ => true) held n 9 [c2] = some y2 := by simpa [show Try.prog.cellsOf 9 = 1 by kernel_rfl] using hg 2 _ rfl
    obtain ⟨k, e0, _, _⟩ := DataW.trod_int Try.underlying5 t0
    obtain ⟨m, e1, _, _⟩ := DataW.trod_int Try.underlying2 t1
    obtain ⟨s, e2, x2, _⟩ := DataW.trod_string Try.underlying9 t2
    simp only [List.cons.injEq, and_true] at e0 e1 e2
    subst e0; subst e1; subst e2
    refine ⟨rfl, (k, m, s), rfl, fun hw => ?_⟩
    rw [hx] at hw
    have := hw s.data.toList.length (by
      simp only [DataW.weights, Try.underlying59, List.map_cons, List.map_nil, DataW.weightsEach, List.mem_append]
      refine .inr (.inr (.inl ?_))
      rw [x2]
      simp [DataW.weights])
    have e : s.data.toList.length = s.size := by rw [Array.length_toList]; rfl
    rw [e] at this
    unfold reachBytes at this
    show s.size ≤ _
    omega
set_option maxRecDepth 100000 in
/-- Values that came in. -/
theorem vals_open {fuel : Nat} {v : Value} {x : DataW H × List MemPlace} (hf : DataW.trod enc Try.prog W 0 (fun _ => true) held fuel 25 [v] = some x) :
    ∃ (ao : Option Addr) (cap : Nat) (V : List VT), v = .slice ao V.length cap ∧ (ao = none → V.length = 0 ∧ cap = 0) ∧ RdC W ao (flV V) ∧ (Wt 25 x.1 → V.length * 32 ≤ 140737488355328 ∧ ∀ t ∈ V, t.2.2.size ≤ 281474976710656) := by
  obtain ⟨ao, len, cap, D, E, rfl, h1, h2, h3, h4, h5, h6⟩ := open_rows Try.underlying25 (show Try.prog.cellsOf 59 = 3 by kernel_rfl) (by decide) (fun cs d => ∃ t : VT, cs = vc t ∧ (Wt 59 d → t.2.2.size ≤ 281474976710656)) (fun fuel cs x hx => val_open hx) hf
  obtain ⟨z, hz⟩ : ∃ z : VT, z = (0, 0, ⟨#[]⟩) := ⟨_, rfl⟩
  have hl : ((List.range len).map fun i => if hi : i < len then Classical.choose (h5 i hi) else z).length = len := by simp
  have hat : ∀ i t, ((List.range len).map fun i => if hi : i < len then Classical.choose (h5 i hi) else z)[i]? = some t → ∃ hi : i < len, t = Classical.choose (h5 i hi) := by
    intro i t ht
    have hi : i < len := by
      have := (List.getElem?_eq_some_iff.1 ht).1
      rwa [hl] at this
    simp [hi] at ht
    exact ⟨hi, ht.symm⟩
  refine ⟨ao, cap, (List.range len).map fun i => if hi : i < len then Classical.choose (h5 i hi) else z, by rw [hl], fun e => by rw [hl]; have := h3 e; omega, fun j u hu => ?_, fun hw => ⟨?_, fun t ht => ?_⟩⟩
  · have hj := (List.getElem?_eq_some_iff.1 hu).1
    rw [flV_len, hl] at hj
    have hi : j / 3 < len := by omega
    obtain ⟨t, ht⟩ : ∃ t, ((List.range len).map fun i => if hi : i < len then Classical.choose (h5 i hi) else z)[j / 3]? = some t := ⟨_, List.getElem?_eq_getElem (by rw [hl]; exact hi)⟩
    have hv := flV_at ht (j % 3) (Nat.mod_lt _ (by decide))
    rw [show j / 3 * 3 + j % 3 = j by omega, hu] at hv
    obtain ⟨hi2, e⟩ := hat _ _ ht
    obtain ⟨hs, _⟩ := Classical.choose_spec (h5 _ hi2)
    obtain ⟨b, off, e2, hb, _, hc⟩ := h4 _ hi
    refine ⟨b, off, e2, hb, ?_⟩
    have := hc (j % 3) (Nat.mod_lt _ (by decide))
    rw [show off + j / 3 * 3 + j % 3 = off + j by omega, hs, ← e, ← hv] at this
    exact this
  · rw [hl]
    rcases h6 with h | ⟨sp, h⟩
    · omega
    · rw [h] at hw
      have := hw ((((List.range len).map E).length + sp.length) * 32) (by simp only [DataW.weights, Try.underlying25, show Try.prog.bytesOf 59 = 32 by kernel_rfl]; exact List.mem_cons_self ..)
      simp only [List.length_map, List.length_range, reachBytes] at this
      omega
  · obtain ⟨i, hget⟩ := List.getElem?_of_mem ht
    obtain ⟨hi, e⟩ := hat i t hget
    rw [e]
    refine (Classical.choose_spec (h5 i hi)).2 (fun n hn => ?_)
    rcases h6 with h | ⟨sp, h⟩
    · omega
    · rw [h] at hw
      refine hw n ?_
      simp only [DataW.weights, Try.underlying25]
      exact List.mem_cons_of_mem _ (List.mem_append_left _ (wt_mem (List.mem_map.2 ⟨i, List.mem_range.2 hi, rfl⟩) n hn))
set_option maxRecDepth 100000 in
/-- Numbers that came in. -/
theorem nums_open {fuel : Nat} {v : Value} {x : DataW H × List MemPlace} (hf : DataW.trod enc Try.prog W 0 (fun _ => true) held fuel 26 [v] = some x) :
    ∃ (ao : Option Addr) (cap : Nat) (L : List Int), v = .slice ao L.length cap ∧ (ao = none → L.length = 0 ∧ cap = 0) ∧ RdC W ao (flN L) ∧ (Wt 26 x.1 → L.length * 4 ≤ 140737488355328) := by
  obtain ⟨ao, len, cap, D, E, rfl, h1, h2, h3, h4, h5, h6⟩ := open_rows Try.underlying26 (show Try.prog.cellsOf 23 = 1 by kernel_rfl) (by decide) (fun cs _ => ∃ n : Int, cs = [.int .u32 n]) (fun fuel cs x hx => by
    obtain ⟨n, rfl, _, _⟩ := DataW.trod_int Try.underlying23 hx
    exact ⟨rfl, n, rfl⟩) hf
  have hl : ((List.range len).map fun i => if hi : i < len then Classical.choose (h5 i hi) else 0).length = len := by simp
  have hat : ∀ i t, ((List.range len).map fun i => if hi : i < len then Classical.choose (h5 i hi) else 0)[i]? = some t → ∃ hi : i < len, t = Classical.choose (h5 i hi) := by
    intro i t ht
    have hi : i < len := by
      have := (List.getElem?_eq_some_iff.1 ht).1
      rwa [hl] at this
    simp [hi] at ht
    exact ⟨hi, ht.symm⟩
  refine ⟨ao, cap, (List.range len).map fun i => if hi : i < len then Classical.choose (h5 i hi) else 0, by rw [hl], fun e => by rw [hl]; have := h3 e; omega, fun j u hu => ?_, fun hw => ?_⟩
  · unfold flN at hu
    rw [List.getElem?_map] at hu
    obtain ⟨t, ht, rfl⟩ := Option.map_eq_some_iff.1 hu
    obtain ⟨hi, e⟩ := hat _ _ ht
    have hs := Classical.choose_spec (h5 _ hi)
    obtain ⟨b, off, e2, hb, _, hc⟩ := h4 _ hi
    refine ⟨b, off, e2, hb, ?_⟩
    have := hc 0 (by decide)
    rw [Nat.mul_one, Nat.add_zero, hs] at this
    rw [e]
    exact this
  · rw [hl]
    rcases h6 with h | ⟨sp, h⟩
    · omega
    · rw [h] at hw
      have := hw ((((List.range len).map E).length + sp.length) * 4) (by simp only [DataW.weights, Try.underlying26, show Try.prog.bytesOf 23 = 4 by kernel_rfl]; exact List.mem_cons_self ..)
      simp only [List.length_map, List.length_range, reachBytes] at this
      omega
set_option maxRecDepth 100000 in
/-- An answer that came in. -/
theorem an_open {fuel : Nat} {cs : List Value} {x : DataW H × List MemPlace} (h : DataW.trod enc Try.prog W 0 (fun _ => true) held fuel 28 cs = some x) : ∃ (a : An) (p : Pl), cs = a.cells p ∧ (Wt 28 x.1 → AnAt W a p) := by
  obtain ⟨xs, n, _, hx, hlen, hxl, hg⟩ := DataW.trod_struct Try.underlying28 h
  rw [show Try.prog.cellsOf 28 = 4 by kernel_rfl] at hlen
  match cs, hlen, xs, hxl with
  | [c0, c1, c2, c3], _, [y0, y1, y2, y3], _ =>
    have t0 : DataW.trod enc Try.prog W 0 (fun _ => true) held n 24 [c0] = some y0 := by simpa [show Try.prog.cellsOf 24 = 1 by kernel_rfl] using hg 0 _ rfl
    have t1 : DataW.trod enc Try.prog W 0 (fun _ => true) held n 3 [c1] = some y1 := by simpa [show Try.prog.cellsOf 3 = 1 by kernel_rfl] using hg 1 _ rfl
    have t2 : DataW.trod enc Try.prog W 0 (fun _ => true) held n 25 [c2] = some y2 := by simpa [show Try.prog.cellsOf 25 = 1 by kernel_rfl] using hg 2 _ rfl
    have t3 : DataW.trod enc Try.prog W 0 (fun _ => true) held n 26 [c3] = some y3 := by simpa [show Try.prog.cellsOf 26 = 1 by kernel_rfl] using hg 3 _ rfl
    obtain ⟨E, e0, _, _⟩ := DataW.trod_int Try.underlying24 t0
    obtain ⟨At, e1, _, _⟩ := DataW.trod_int Try.underlying3 t1
    obtain ⟨vo, vc, V, rfl, v1, v2, v3⟩ := vals_open t2
    obtain ⟨lo, lc, L, rfl, l1, l2, l3⟩ := nums_open t3
    simp only [List.cons.injEq, and_true] at e0 e1
    subst e0; subst e1
    refine ⟨⟨E, At, V, L⟩, ⟨vo, vc, lo, lc⟩, rfl, fun hw => ?_⟩
    rw [hx] at hw
    have w2 : ∀ n, n ∈ DataW.weights Try.prog 25 y2.1 ∨ n ∈ DataW.weights Try.prog 26 y3.1 → n ≤ reachBytes := fun n hn => hw n (by
      simp only [DataW.weights, Try.underlying28, List.map_cons, List.map_nil, DataW.weightsEach, List.mem_append]
      rcases hn with hn | hn
      · exact .inr (.inr (.inl hn))
      · exact .inr (.inr (.inr (.inl hn))))
    obtain ⟨b1, b2⟩ := v3 (fun n hn => w2 n (.inl hn))
    exact ⟨v2, l2, v1, l1, b1, l3 (fun n hn => w2 n (.inr hn)), b2⟩
set_option maxRecDepth 100000 in
/-- A step that came in. -/
theorem op_open {fuel : Nat} {cs : List Value} {x : DataW H × List MemPlace} (h : DataW.trod enc Try.prog W 0 (fun _ => true) held fuel 36 cs = some x) : cs.length = 7 ∧ ∃ o : OpS, cs = o.cells ∧ (Wt 36 x.1 → OkS W o) := by
  obtain ⟨xs, n, _, hx, hlen, hxl, hg⟩ := DataW.trod_struct Try.underlying36 h
  rw [show Try.prog.cellsOf 36 = 7 by kernel_rfl] at hlen
  match cs, hlen, xs, hxl with
  | [c0, c1, c2, c3, c4, c5, c6], _, [y0, y1, y2, y3], _ =>
    have t0 : DataW.trod enc Try.prog W 0 (fun _ => true) held n 5 [c0] = some y0 := by simpa [show Try.prog.cellsOf 5 = 1 by kernel_rfl] using hg 0 _ rfl
    have t1 : DataW.trod enc Try.prog W 0 (fun _ => true) held n 5 [c1] = some y1 := by simpa [show Try.prog.cellsOf 5 = 1 by kernel_rfl] using hg 1 _ rfl
    have t2 : DataW.trod enc Try.prog W 0 (fun _ => true) held n 23 [c2] = some y2 := by simpa [show Try.prog.cellsOf 23 = 1 by kernel_rfl] using hg 2 _ rfl
    have t3 : DataW.trod enc Try.prog W 0 (fun _ => true) held n 28 [c3, c4, c5, c6] = some y3 := by simpa [show Try.prog.cellsOf 28 = 4 by kernel_rfl] using hg 3 _ rfl
    obtain ⟨kd, e0, _, _⟩ := DataW.trod_int Try.underlying5 t0
    obtain ⟨cl, e1, _, w1⟩ := DataW.trod_int Try.underlying5 t1
    obtain ⟨sq, e2, _, w2⟩ := DataW.trod_int Try.underlying23 t2
    obtain ⟨a, p, e3, ha⟩ := an_open t3
    simp only [An.cells, List.cons.injEq, and_true] at e0 e1 e2 e3
    obtain ⟨f0, f1, f2, f3⟩ := e3
    subst e0; subst e1; subst e2; subst f0; subst f1; subst f2; subst f3
    refine ⟨rfl, ⟨kd, cl, sq, a, p⟩, rfl, fun hw => ⟨ha (fun n hn => hw n ?_), bounds_u8 w1, bounds_u32 w2⟩⟩
    rw [hx]
    simp only [DataW.weights, Try.underlying36, List.map_cons, List.map_nil, DataW.weightsEach, List.mem_append]
    exact .inr (.inr (.inr (.inl hn)))
set_option maxRecDepth 100000 in
/-- A script that came in. -/
theorem open_ops {b0 : Nat} {v : Value} {d : DataW H} {p : List MemPlace} (hv : Value.okWide Try.prog W .any b0 22 v) (h : DataW.Trod enc Try.prog W 0 (fun _ => true) held 22 v d p) (hw : Wt 22 d) :
    ∃ (ao : Option Addr) (cap : Nat) (Os : List OpS), v = .slice ao Os.length cap ∧ Os.length ≤ cap ∧ cap ≤ maxLen ∧ RdS W ao Os ∧ ∀ o ∈ Os, OkS W o := by
  obtain ⟨a, len0, cap0, rfl⟩ := okWide_slice Try.underlying22 hv
  obtain ⟨fuel, hf⟩ := h
  simp only [Value.cells] at hf
  obtain ⟨ao, len, cap, D, E, ev, h1, h2, h3, h4, h5, h6⟩ := open_rows Try.underlying22 (show Try.prog.cellsOf 36 = 7 by kernel_rfl) (by decide) (fun cs d => ∃ o : OpS, cs = o.cells ∧ (Wt 36 d → OkS W o)) (fun fuel cs x hx => op_open hx) hf
  rw [ev]
  obtain ⟨z, hz⟩ : ∃ z : OpS, z = ⟨0, 0, 0, An.zero, Pl.nil⟩ := ⟨_, rfl⟩
  have hl : ((List.range len).map fun i => if hi : i < len then Classical.choose (h5 i hi) else z).length = len := by simp
  have hat : ∀ i t, ((List.range len).map fun i => if hi : i < len then Classical.choose (h5 i hi) else z)[i]? = some t → ∃ hi : i < len, t = Classical.choose (h5 i hi) := by
    intro i t ht
    have hi : i < len := by
      have := (List.getElem?_eq_some_iff.1 ht).1
      rwa [hl] at this
    simp [hi] at ht
    exact ⟨hi, ht.symm⟩
  have hbd : ∀ i, i < len → Wt 36 (E i) := fun i hi n hn => by
    rcases h6 with h | ⟨sp, h⟩
    · omega
    · simp only at h
      rw [h] at hw
      refine hw n ?_
      simp only [DataW.weights, Try.underlying22]
      exact List.mem_cons_of_mem _ (List.mem_append_left _ (wt_mem (List.mem_map.2 ⟨i, List.mem_range.2 hi, rfl⟩) n hn))
  refine ⟨ao, cap, (List.range len).map fun i => if hi : i < len then Classical.choose (h5 i hi) else z, by rw [hl], by rw [hl]; exact h1, h2, fun i t ht => ?_, fun t ht => ?_⟩
  · obtain ⟨hi, rfl⟩ := hat i t ht
    obtain ⟨hs, _⟩ := Classical.choose_spec (h5 i hi)
    obtain ⟨b, off, e, hb, _, hc⟩ := h4 i hi
    refine ⟨b, off, e, hb, fun j v hj => ?_⟩
    have hj7 : j < 7 := (List.getElem?_eq_some_iff.1 hj).1
    rw [hc j hj7, hs]
    exact hj
  · obtain ⟨i, hget⟩ := List.getElem?_of_mem ht
    obtain ⟨hi, e⟩ := hat i t hget
    rw [e]
    exact (Classical.choose_spec (h5 i hi)).2 (hbd i hi)
set_option maxRecDepth 100000 in
/-- An answer that came in by itself. -/
theorem open_an {b0 : Nat} {v : Value} {d : DataW H} {p : List MemPlace} (hv : Value.okWide Try.prog W .any b0 28 v) (h : DataW.Trod enc Try.prog W 0 (fun _ => true) held 28 v d p) (hw : Wt 28 d) :
    ∃ (a : An) (q : Pl), v = a.val q ∧ AnAt W a q := by
  obtain ⟨c0, c1, c2, c3, y0, y1, y2, y3, m, rfl, rfl, rfl, hy0, hy1, hy2, hy3⟩ := open_agg4 Try.underlying28 (by kernel_rfl) (by kernel_rfl) hv h
  obtain ⟨E, e0, _, _⟩ := DataW.trod_int Try.underlying24 hy0
  obtain ⟨At, e1, _, _⟩ := DataW.trod_int Try.underlying3 hy1
  obtain ⟨vo, vc, V, rfl, v1, v2, v3⟩ := vals_open hy2
  obtain ⟨lo, lc, L, rfl, l1, l2, l3⟩ := nums_open hy3
  simp only [List.cons.injEq, and_true] at e0 e1
  subst e0; subst e1
  have w2 : ∀ n, n ∈ DataW.weights Try.prog 25 y2.1 ∨ n ∈ DataW.weights Try.prog 26 y3.1 → n ≤ reachBytes := fun n hn => hw n (by
    simp only [DataW.weights, Try.underlying28, List.map_cons, List.map_nil, DataW.weightsEach, List.mem_append]
    rcases hn with hn | hn
    · exact .inr (.inr (.inl hn))
    · exact .inr (.inr (.inr (.inl hn))))
  obtain ⟨b1, b2⟩ := v3 (fun n hn => w2 n (.inl hn))
  exact ⟨⟨E, At, V, L⟩, ⟨vo, vc, lo, lc⟩, rfl, ⟨v2, l2, v1, l1, b1, l3 (fun n hn => w2 n (.inr hn)), b2⟩⟩
end
end Go.Proofs.Yteikhbfdegmffaa.Se
