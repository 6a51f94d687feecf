/- bag: what its rows need: arguments opened, the end of a law. -/
import Derived.Test.YthjcllgjojldjaaB1
import Derived.Test.YthjcllgjojldjaaRows
import Derived.ProofKit
import Derived.OpenShut
import Derived.Deep.Slices
import Derived.Deep.Fields
import Derived.Carry
import Derived.ChangeSlices
import Derived.SizedLaws
import Derived.Lib.SmallJoins
namespace Go.Proofs.Ythjcllgjojldjaa.Bg
open Go Go.ChangeShapes Go.WideShapes Go.ChangeAt Go.RowKit Go.Joins Go.ChangeMaps Go.Deep
theorem own : ownKnob Try.prog.godebug = none := by kernel_rfl
theorem laid_out : laidOutB Try.prog = true := by kernel_rfl
/-- The end of a law: the call answered true, and below what was there nothing has turned. -/
theorem law_true2 {H : Type} {enc : TypeId × Value → H} {f : Func} {s : ChangeSpec} {W W' : World} {args : Array Value} {ds : List (DataW H)} {pa : List MemPlace}
    (hvars : s.vars = []) (hres : f.resultTypes = #[4]) (hspec : s.fn H ds = { results := [.lit (.bool true)], args := ds })
    (hW : DataW.Whole enc Try.prog f.params.toList s.vars false W args.toList ds [] pa) (hb : Below W.heap.size W W')
    (hargs : DataW.TrodAll enc Try.prog W' 0 (fun b => decide (b < W.heap.size)) true f.params.toList args.toList ds pa) :
    s.post enc Try.prog f false true false false W args (.bool true) W' := by
  have bool4 : ∀ (b : Nat) (sp : Nat → Bool) (hd : Bool), DataW.TrodAll enc Try.prog W' b sp hd f.resultTypes.toList ((Value.bool true).resultList f.resultTypes.size) [.lit (.bool true)] [] := by
    intro b sp hd; rw [hres]; exact trodAll_cons_mk (shut_bool Try.underlying4 _) trodAll_mk0
  have none4 : ∀ sp : Nat → Bool, DataW.TrodVars enc Try.prog W' sp s.vars [] [] := by intro sp; rw [hvars]; rfl
  have e : s.fn H (ds ++ []) = { results := [.lit (.bool true)], args := ds } := by rw [List.append_nil]; exact hspec
  exact ⟨ds, [], pa, [], pa, [], hW, by rw [e]; exact bool4 _ _ _, by rw [e]; exact hargs, by rw [e]; exact none4 _, World.keptBut_mono (fun p hp => ⟨hp, .inr (.inl hp)⟩) (hb.frame (· ∈ pa)), fun h => by cases h⟩
theorem cells5 : Try.prog.cellsOf 5 = 1 := by kernel_rfl
theorem cells30 : Try.prog.cellsOf 30 = 1 := by kernel_rfl
section
variable {H : Type} {enc : TypeId × Value → H} {W : World} {held : Bool}
set_option maxRecDepth 100000 in
/-- A list that came in, of elements of k cells each, with what it reads as. -/
theorem open_rows {t e k fuel : Nat} (ht : Try.prog.underlying t = some (.slice e)) (hk : Try.prog.cellsOf e = k) (k0 : 0 < k) (Pp : List Value → DataW H → Prop)
    (hel : ∀ (fuel : Nat) (cs : List Value) (x : DataW H × List MemPlace), DataW.trod enc Try.prog W 0 (fun _ => true) held fuel e cs = some x → cs.length = k ∧ Pp cs x.1)
    {v : Value} {x : DataW H × List MemPlace} (hf : DataW.trod enc Try.prog W 0 (fun _ => true) held fuel t [v] = some x) :
    ∃ (ao : Option Addr) (len cap : Nat) (D : Nat → List Value) (E : Nat → DataW H), v = .slice ao len cap ∧ len ≤ cap ∧ cap ≤ maxLen ∧ (ao = none → cap = 0) ∧
      (∀ i, i < len → ∃ b off, ao = some ⟨b, off, none⟩ ∧ b < W.heap.size ∧ (D i).length = k ∧ ∀ j, j < k → W.cell? ⟨b, off + i * k + j, none⟩ = (D i)[j]?) ∧
      (∀ i, i < len → Pp (D i) (E i)) ∧ (len = 0 ∨ ∃ sp, x.1 = .slice ((List.range len).map E) sp) := by
  rcases open_slice ht hf with ⟨hcs, _⟩ | ⟨a', len', cap', m, n, E, Pl, hcs, _, hl, hm, hmm, hx, hi⟩
  · simp only [List.cons.injEq, and_true] at hcs
    subst hcs
    exact ⟨none, 0, 0, fun _ => [], fun _ => .nil, rfl, Nat.le_refl _, Nat.zero_le _, fun _ => rfl, fun i hi => absurd hi (Nat.not_lt_zero _), fun i hi => absurd hi (Nat.not_lt_zero _), .inl rfl⟩
  · simp only [List.cons.injEq, and_true] at hcs
    subst hcs
    have hmc : m = cap' := by rw [hmm]; rfl
    rw [hk] at hi
    have each : ∀ i, i < len' → ∃ cs : List Value, (cs.length = k ∧ Pp cs (E i)) ∧ ∀ j, j < k → W.cell? ((a'.add (i * k)).add j) = cs[j]? := by
      intro i hil
      obtain ⟨cs', hc, hx⟩ := hi i (by omega)
      exact ⟨cs', hel _ _ _ hx, (World.cells?_some hc).2.2⟩
    refine ⟨some a', len', cap', fun i => if hil : i < len' then Classical.choose (each i hil) else [], E, rfl, hl, hm, (fun e => by cases e), fun i hil => ?_, fun i hil => ?_, .inr ⟨_, by rw [hx]⟩⟩
    · have hcs := Classical.choose_spec (each i hil)
      simp only [dif_pos hil]
      generalize Classical.choose (each i hil) = csi at hcs ⊢
      obtain ⟨b, off, spot⟩ := a'
      have hsp : spot = none := by
        obtain ⟨cs0, hl0, hc0⟩ := each 0 (by omega)
        have := hc0 0 k0
        rw [List.getElem?_eq_getElem (by omega)] at this
        simp only [Nat.zero_mul, Addr.add, if_true] at this
        exact World.cell?_spot this
      subst hsp
      have hc : ∀ j, j < k → W.cell? ⟨b, off + i * k + j, none⟩ = csi[j]? := fun j hj => by
        have := hcs.2 j hj
        rwa [Go.WideShapes.add_plain, Go.WideShapes.add_plain] at this
      have hb : b < W.heap.size := by
        have := hc 0 k0
        rw [List.getElem?_eq_getElem (by omega)] at this
        exact World.block_lt_of_cell? W _ this
      exact ⟨b, off, rfl, hb, hcs.1.1, hc⟩
    · have hcs := Classical.choose_spec (each i hil)
      simp only [dif_pos hil]
      exact hcs.1.2
set_option maxRecDepth 100000 in
theorem open3 {t : TypeId} {f0 f1 f2 : Field} {fuel : Nat} {cs : List Value} {x : DataW H × List MemPlace} (hs : Try.prog.underlying t = some (.struct #[f0, f1, f2])) (o0 : f0.offset = 0) (k0 : Try.prog.cellsOf f0.type = 1) (o1 : f1.offset = 1) (k1 : Try.prog.cellsOf f1.type = 1) (o2 : f2.offset = 2) (k2 : Try.prog.cellsOf f2.type = 1) (hC : Try.prog.cellsOf t = 3)
    (h : DataW.trod enc Try.prog W 0 (fun _ => true) held fuel t cs = some x) :
    ∃ (c0 c1 c2 : Value) (y0 y1 y2 : DataW H × List MemPlace) (n : Nat), cs = [c0, c1, c2] ∧ DataW.trod enc Try.prog W 0 (fun _ => true) held n f0.type [c0] = some y0 ∧ DataW.trod enc Try.prog W 0 (fun _ => true) held n f1.type [c1] = some y1 ∧ DataW.trod enc Try.prog W 0 (fun _ => true) held n f2.type [c2] = some y2 := by
  obtain ⟨xs, n, _, _, hlen, hxl, hg⟩ := DataW.trod_struct hs h
  rw [hC] at hlen
  match cs, hlen, xs, hxl with
  | [c0, c1, c2], _, [y0, y1, y2], _ =>
    exact ⟨c0, c1, c2, y0, y1, y2, n, rfl, by simpa [o0, k0] using hg 0 f0 rfl, by simpa [o1, k1] using hg 1 f1 rfl, by simpa [o2, k2] using hg 2 f2 rfl⟩
/-- Nothing that is read weighs more than reaches. -/
def Wt (t : TypeId) (d : DataW H) : Prop := ∀ n ∈ DataW.weights Try.prog t d, n ≤ reachBytes
theorem wt_mem {e : TypeId} : ∀ {es : List (DataW H)} {d : DataW H}, d ∈ es → ∀ n ∈ DataW.weights Try.prog e d, n ∈ DataW.weightsAll Try.prog e es
  | x :: es, d, h, n, hn => by
    simp only [DataW.weightsAll, List.mem_append]
    rcases List.mem_cons.1 h with rfl | h
    · exact .inl hn
    · exact .inr (wt_mem h n hn)
/-- A list of bytes. -/
theorem open_bytes {fuel : Nat} {cs : List Value} {x : DataW H × List MemPlace} (hf : DataW.trod enc Try.prog W 0 (fun _ => true) held fuel 30 cs = some x) :
    ∃ (ao : Option Addr) (c : Nat) (l : List Int), cs = [.slice ao l.length c] ∧ l.length ≤ c ∧ c ≤ maxLen ∧ Rd W ao l ∧ (ao = none → c = 0) ∧ (Wt 30 x.1 → l.length ≤ 140737488351232) ∧ ∀ x ∈ l, 0 ≤ x ∧ x ≤ 255 := by
  rcases open_ints Try.underlying30 Try.underlying5 cells5 hf with ⟨hcs, _⟩ | ⟨a, len, cap, zs, hcs, _, h1, h2, h3, hx, h4, h5⟩
  · exact ⟨none, 0, [], hcs, Nat.le_refl _, Nat.zero_le _, Rd.nil _ _, fun _ => rfl, fun _ => Nat.zero_le _, by simp⟩
  · rw [if_pos rfl] at h3
    have hl : (zs.take len).length = len := by rw [List.length_take]; omega
    refine ⟨some a, cap, zs.take len, by rw [hl]; exact hcs, by omega, h2, fun k hk => ?_, (fun h => by cases h), ?_, fun x hx => bounds_u8 (h5 x (List.mem_of_mem_take hx))⟩
    · rw [hl] at hk
      have hc := h4 k (by omega)
      have hb := World.block_lt_of_cell? W _ hc
      rw [add_block] at hb
      refine ⟨a, rfl, hb, ?_⟩
      rw [hc, List.getD_eq_getElem?_getD, List.getD_eq_getElem?_getD, List.getElem?_take, if_pos hk]
    · intro hw
      have hd : x.1 = .slice (lits .u8 (zs.take len)) (lits .u8 (zs.drop len)) := by cases hx; rfl
      rw [hd] at hw
      have := hw (((lits (H := H) .u8 (zs.take len)).length + (lits (H := H) .u8 (zs.drop len)).length) * 1) (by simp only [DataW.weights, Try.underlying30, show Try.prog.bytesOf 5 = 1 by kernel_rfl]; exact List.mem_cons_self ..)
      simp only [lits, List.length_map, List.length_take, List.length_drop, reachBytes] at this
      rw [hl]
      omega
theorem open_bytesV {b0 : Nat} {v : Value} {d : DataW H} {p : List MemPlace} (hv : Value.okWide Try.prog W .any b0 30 v) (h : DataW.Trod enc Try.prog W 0 (fun _ => true) held 30 v d p) :
    ∃ (ao : Option Addr) (c : Nat) (l : List Int), v = .slice ao l.length c ∧ l.length ≤ maxLen ∧ Rd W ao l ∧ ∀ x ∈ l, 0 ≤ x ∧ x ≤ 255 := by
  obtain ⟨a, len0, cap0, rfl⟩ := okWide_slice Try.underlying30 hv
  obtain ⟨fuel, hf⟩ := h
  simp only [Value.cells] at hf
  obtain ⟨ao, c, l, e, h1, h2, h3, _, _, h4⟩ := open_bytes hf
  simp only [List.cons.injEq, and_true] at e
  exact ⟨ao, c, l, e, Nat.le_trans h1 h2, h3, h4⟩
set_option maxRecDepth 100000 in
/-- A list of lists of bytes that came in. -/
theorem open_lists {b0 : Nat} {v : Value} {d : DataW H} {p : List MemPlace} (hv : Value.okWide Try.prog W .any b0 27 v) (h : DataW.Trod enc Try.prog W 0 (fun _ => true) held 27 v d p) : ∃ L, RdRow W v L := by
  obtain ⟨a, len0, cap0, rfl⟩ := okWide_slice Try.underlying27 hv
  obtain ⟨fuel, hf⟩ := h
  simp only [Value.cells] at hf
  obtain ⟨ao, len, cap, D, E, ev, h1, h2, h3, h4, h5, _⟩ := open_rows Try.underlying27 cells30 (by decide) (fun cs _ => ∃ q : Option Addr × Nat × List Int, cs = [.slice q.1 q.2.2.length q.2.1] ∧ q.2.2.length ≤ maxLen ∧ Rd W q.1 q.2.2) (fun fuel cs x hx => by
    obtain ⟨ao, c, l, rfl, g1, g2, g3, _⟩ := open_bytes hx
    exact ⟨rfl, ⟨ao, c, l⟩, rfl, Nat.le_trans g1 g2, g3⟩) hf
  rw [ev]
  refine ⟨(List.range len).map fun i => if hi : i < len then (Classical.choose (h5 i hi)).2.2 else [], ao, cap, by simp, by simp; omega, fun k l hk => ?_⟩
  have hi : k < len := by
    have := (List.getElem?_eq_some_iff.1 hk).1
    simpa using this
  simp [hi] at hk
  have hs := Classical.choose_spec (h5 k hi)
  generalize Classical.choose (h5 k hi) = q at hk hs
  obtain ⟨qa, qc, ql⟩ := q
  simp only at hk hs
  subst hk
  obtain ⟨hD, g1, g2⟩ := hs
  obtain ⟨b, off, e, hb, _, hc⟩ := h4 k hi
  refine ⟨⟨b, off, none⟩, qa, qc, e, hb, ?_, g2, g1⟩
  have := hc 0 (by decide)
  rw [hD, Nat.mul_one, Nat.add_zero] at this
  rw [Go.WideShapes.add_plain]
  exact this
/-- A call that came in. -/
structure Ob where
  kd : Int
  i : Int
  l : List Int
def Ob.In (W : World) (o : Ob) (ao : Option Addr) (c : Nat) : Prop := Rd W ao o.l ∧ (ao = none → c = 0) ∧ o.l.length ≤ c ∧ c ≤ maxLen ∧ (0 ≤ o.kd ∧ o.kd ≤ 255) ∧ (-9223372036854775808 ≤ o.i ∧ o.i ≤ 9223372036854775807) ∧ o.l.length ≤ 140737488351232
/-- A script that came in, as it reads. -/
def RdB (W : World) (so : Option Addr) (os : List Ob) : Prop :=
  ∀ (k : Nat) (o : Ob), os[k]? = some o → ∃ b off ao c, so = some ⟨b, off, none⟩ ∧ b < W.heap.size ∧ W.cell? ⟨b, off + k * 3, none⟩ = some (.int .u8 o.kd) ∧ W.cell? ⟨b, off + k * 3 + 1, none⟩ = some (.int .i64 o.i) ∧ W.cell? ⟨b, off + k * 3 + 2, none⟩ = some (.slice ao o.l.length c) ∧ o.In W ao c
def oB (o : Ob) (ao : Option Addr) (c : Nat) : List Value := [.int .u8 o.kd, .int .i64 o.i, .slice ao o.l.length c]
set_option maxRecDepth 100000 in
theorem ob_open {fuel : Nat} {cs : List Value} {x : DataW H × List MemPlace} (h : DataW.trod enc Try.prog W 0 (fun _ => true) held fuel 32 cs = some x) : cs.length = 3 ∧ ∃ q : Ob × Option Addr × Nat, cs = oB q.1 q.2.1 q.2.2 ∧ (Wt 32 x.1 → q.1.In W q.2.1 q.2.2) := by
  obtain ⟨xs, n, _, hx, hlen, hxl, hg⟩ := DataW.trod_struct Try.underlying32 h
  rw [show Try.prog.cellsOf 32 = 3 by kernel_rfl] at hlen
  match cs, hlen, xs, hxl with
  | [c0, c1, c2], _, [y0, y1, y2], _ =>
    have t0 : DataW.trod enc Try.prog W 0 (fun _ => true) held n 5 [c0] = some y0 := by simpa [show Try.prog.cellsOf 5 = 1 by kernel_rfl] using hg 0 _ rfl
    have t1 : DataW.trod enc Try.prog W 0 (fun _ => true) held n 3 [c1] = some y1 := by simpa [show Try.prog.cellsOf 3 = 1 by kernel_rfl] using hg 1 _ rfl
    have t2 : DataW.trod enc Try.prog W 0 (fun _ => true) held n 30 [c2] = some y2 := by simpa [cells30] using hg 2 _ rfl
    obtain ⟨kd, e0, _, w0⟩ := DataW.trod_int Try.underlying5 t0
    obtain ⟨i, e1, _, w1⟩ := DataW.trod_int Try.underlying3 t1
    obtain ⟨ao, c, l, e2, g1, g2, g3, g4, g5, _⟩ := open_bytes t2
    simp only [List.cons.injEq, and_true] at e0 e1 e2
    subst e0; subst e1; subst e2
    refine ⟨rfl, ⟨⟨kd, i, l⟩, ao, c⟩, rfl, fun hw => ⟨g3, g4, g1, g2, bounds_u8 w0, bounds_i64 w1, g5 (fun n hn => hw n ?_)⟩⟩
    rw [hx]
    simp only [DataW.weights, Try.underlying32, List.map_cons, List.map_nil, DataW.weightsEach, List.mem_append]
    exact .inr (.inr (.inl hn))
set_option maxRecDepth 100000 in
/-- A script that came in. -/
theorem open_script {b0 : Nat} {v : Value} {d : DataW H} {p : List MemPlace} (hv : Value.okWide Try.prog W .any b0 22 v) (h : DataW.Trod enc Try.prog W 0 (fun _ => true) held 22 v d p) (hw : Wt 22 d) :
    ∃ (so : Option Addr) (cap : Nat) (os : List Ob), v = .slice so os.length cap ∧ os.length ≤ maxLen ∧ RdB W so os := by
  obtain ⟨a, len0, cap0, rfl⟩ := okWide_slice Try.underlying22 hv
  obtain ⟨fuel, hf⟩ := h
  simp only [Value.cells] at hf
  obtain ⟨so, len, cap, D, E, ev, h1, h2, h3, h4, h5, h6⟩ := open_rows Try.underlying22 (show Try.prog.cellsOf 32 = 3 by kernel_rfl) (by decide) (fun cs d => ∃ q : Ob × Option Addr × Nat, cs = oB q.1 q.2.1 q.2.2 ∧ (Wt 32 d → q.1.In W q.2.1 q.2.2)) (fun fuel cs x hx => ob_open hx) hf
  rw [ev]
  have hbd : ∀ i, i < len → Wt 32 (E i) := fun i hi n hn => by
    rcases h6 with h | ⟨sp, h⟩
    · omega
    · simp only at h
      rw [h] at hw
      refine hw n ?_
      simp only [DataW.weights, Try.underlying22]
      exact List.mem_cons_of_mem _ (List.mem_append_left _ (wt_mem (List.mem_map.2 ⟨i, List.mem_range.2 hi, rfl⟩) n hn))
  refine ⟨so, cap, (List.range len).map fun i => if hi : i < len then (Classical.choose (h5 i hi)).1 else ⟨0, 0, []⟩, by simp, by simp; omega, fun i r hr => ?_⟩
  have hi : i < len := by
    have := (List.getElem?_eq_some_iff.1 hr).1
    simpa using this
  simp [hi] at hr
  have hs := Classical.choose_spec (h5 i hi)
  generalize Classical.choose (h5 i hi) = q at hr hs
  obtain ⟨q, ao, qc⟩ := q
  simp only at hr hs
  subst hr
  obtain ⟨hD, g1⟩ := hs
  obtain ⟨b, off, e, hb, _, hc⟩ := h4 i hi
  have hcell : ∀ j u, j < 3 → (oB q ao qc)[j]? = some u → W.cell? ⟨b, off + i * 3 + j, none⟩ = some u := fun j u hj hu => by
    rw [hc j hj, hD]; exact hu
  exact ⟨b, off, ao, qc, e, hb, hcell 0 _ (by decide) rfl, hcell 1 _ (by decide) rfl, hcell 2 _ (by decide) rfl, g1 (hbd i hi)⟩
end
end Go.Proofs.Ythjcllgjojldjaa.Bg
