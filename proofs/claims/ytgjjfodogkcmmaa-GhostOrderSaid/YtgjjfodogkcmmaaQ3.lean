/- What the rows of GhostTallies, GhostMoves and GhostOrder need: vertices that came in. -/
import Derived.Test.YtgjjfodogkcmmaaQ2
import Derived.Test.YtgjjfodogkcmmaaRows
import Derived.ProofKit
import Derived.OpenShut
import Derived.Deep.Slices
import Derived.Deep.Fields
import Derived.Carry
import Derived.Lib.SmallJoins
import Derived.SizedLaws
namespace Go.Proofs.Ytgjjfodogkcmmaa.Gh
open Go Go.ChangeShapes Go.WideShapes Go.ChangeAt Go.RowKit Go.Joins Go.ChangeMaps Go.Deep Ytgjjfodogkcmmaa.Vl
theorem own : ownKnob Try.prog.godebug = none := by kernel_rfl
theorem laid_out : laidOutB Try.prog = true := by kernel_rfl
set_option maxRecDepth 100000 in
/-- The end of a law: the call answered true, and below what was there nothing has turned. -/
theorem law_true2 {H : Type} {enc : TypeId × Value → H} {f : Func} {s : ChangeSpec} {W W' : World} {args : Array Value} {ds : List (DataW H)} {pa : List MemPlace}
    (hvars : s.vars = []) (hres : f.resultTypes = #[4]) (hspec : s.fn H ds = { results := [.lit (.bool true)], args := ds })
    (hW : DataW.Whole enc Try.prog f.params.toList s.vars false W args.toList ds [] pa) (hb : Below W.heap.size W W')
    (hargs : DataW.TrodAll enc Try.prog W' 0 (fun b => decide (b < W.heap.size)) true f.params.toList args.toList ds pa) :
    s.post enc Try.prog f false true false false W args (.bool true) W' := by
  have bool4 : ∀ (b : Nat) (sp : Nat → Bool) (hd : Bool), DataW.TrodAll enc Try.prog W' b sp hd f.resultTypes.toList ((Value.bool true).resultList f.resultTypes.size) [.lit (.bool true)] [] := by
    intro b sp hd; rw [hres]; exact trodAll_cons_mk (shut_bool Try.underlying4 _) trodAll_mk0
  have none4 : ∀ sp : Nat → Bool, DataW.TrodVars enc Try.prog W' sp s.vars [] [] := by intro sp; rw [hvars]; rfl
  have e : s.fn H (ds ++ []) = { results := [.lit (.bool true)], args := ds } := by rw [List.append_nil]; exact hspec
  exact ⟨ds, [], pa, [], pa, [], hW, by rw [e]; exact bool4 _ _ _, by rw [e]; exact hargs, by rw [e]; exact none4 _, World.keptBut_mono (fun p hp => ⟨hp, .inr (.inl hp)⟩) (hb.frame (· ∈ pa)), fun h => by cases h⟩
section
variable {H : Type} {enc : TypeId × Value → H} {W : World} {held : Bool}
set_option maxRecDepth 100000 in
/-- A list that came in, of elements of k cells each, with what it reads as. -/
theorem open_rows {t e k fuel : Nat} (ht : Try.prog.underlying t = some (.slice e)) (hk : Try.prog.cellsOf e = k) (k0 : 0 < k) (Pp : List Value → DataW H → Prop)
    (hel : ∀ (fuel : Nat) (cs : List Value) (x : DataW H × List MemPlace), DataW.trod enc Try.prog W 0 (fun _ => true) held fuel e cs = some x → cs.length = k ∧ Pp cs x.1)
    {v : Value} {x : DataW H × List MemPlace} (hf : DataW.trod enc Try.prog W 0 (fun _ => true) held fuel t [v] = some x) :
    ∃ (ao : Option Addr) (len cap : Nat) (D : Nat → List Value) (E : Nat → DataW H), v = .slice ao len cap ∧ len ≤ cap ∧ cap ≤ maxLen ∧ (ao = none → cap = 0) ∧
      (∀ i, i < len → ∃ b off, ao = some ⟨b, off, none⟩ ∧ b < W.heap.size ∧ (D i).length = k ∧ ∀ j, j < k → W.cell? ⟨b, off + i * k + j, none⟩ = (D i)[j]?) ∧
      (∀ i, i < len → Pp (D i) (E i)) ∧ (len = 0 ∨ ∃ sp, x.1 = .slice ((List.range len).map E) sp) := by
  rcases open_slice ht hf with ⟨hcs, _⟩ | ⟨a', len', cap', m, n, E, Pl, hcs, _, hl, hm, hmm, hx, hi⟩
  · simp only [List.cons.injEq, and_true] at hcs
    subst hcs
    exact ⟨none, 0, 0, fun _ => [], fun _ => .nil, rfl, Nat.le_refl _, Nat.zero_le _, fun _ => rfl, fun i hi => absurd hi (Nat.not_lt_zero _), fun i hi => absurd hi (Nat.not_lt_zero _), .inl rfl⟩
  · simp only [List.cons.injEq, and_true] at hcs
    subst hcs
    have hmc : m = cap' := by rw [hmm]; rfl
    rw [hk] at hi
    have each : ∀ i, i < len' → ∃ cs : List Value, (cs.length = k ∧ Pp cs (E i)) ∧ ∀ j, j < k → W.cell? ((a'.add (i * k)).add j) = cs[j]? := by
      intro i hil
      obtain ⟨cs', hc, hx⟩ := hi i (by omega)
      exact ⟨cs', hel _ _ _ hx, (World.cells?_some hc).2.2⟩
    refine ⟨some a', len', cap', fun i => if hil : i < len' then Classical.choose (each i hil) else [], E, rfl, hl, hm, (fun e => by cases e), fun i hil => ?_, fun i hil => ?_, .inr ⟨_, by rw [hx]⟩⟩
    · have hcs := Classical.choose_spec (each i hil)
      simp only [dif_pos hil]
      generalize Classical.choose (each i hil) = csi at hcs ⊢
      obtain ⟨b, off, spot⟩ := a'
      have hsp : spot = none := by
        obtain ⟨cs0, hl0, hc0⟩ := each 0 (by omega)
        have := hc0 0 k0
        rw [List.getElem?_eq_getElem (by omega)] at this
        simp only [Nat.zero_mul, Addr.add, if_true] at this
        exact World.cell?_spot this
      subst hsp
      have hc : ∀ j, j < k → W.cell? ⟨b, off + i * k + j, none⟩ = csi[j]? := fun j hj => by
        have := hcs.2 j hj
        rwa [Go.WideShapes.add_plain, Go.WideShapes.add_plain] at this
      have hb : b < W.heap.size := by
        have := hc 0 k0
        rw [List.getElem?_eq_getElem (by omega)] at this
        exact World.block_lt_of_cell? W _ this
      exact ⟨b, off, rfl, hb, hcs.1.1, hc⟩
    · have hcs := Classical.choose_spec (each i hil)
      simp only [dif_pos hil]
      exact hcs.1.2
set_option maxRecDepth 100000 in
theorem open2 {t : TypeId} {f0 f1 : Field} {k : Nat} {fuel : Nat} {cs : List Value} {x : DataW H × List MemPlace} (hs : Try.prog.underlying t = some (.struct #[f0, f1])) (o0 : f0.offset = 0) (k0 : Try.prog.cellsOf f0.type = 1) (o1 : f1.offset = 1) (k1 : Try.prog.cellsOf f1.type = k) (hC : Try.prog.cellsOf t = k + 1)
    (h : DataW.trod enc Try.prog W 0 (fun _ => true) held fuel t cs = some x) :
    ∃ (c0 : Value) (r : List Value) (y0 y1 : DataW H × List MemPlace) (n : Nat), cs = c0 :: r ∧ r.length = k ∧ DataW.trod enc Try.prog W 0 (fun _ => true) held n f0.type [c0] = some y0 ∧ DataW.trod enc Try.prog W 0 (fun _ => true) held n f1.type r = some y1 := by
  obtain ⟨xs, n, _, _, hlen, hxl, hg⟩ := DataW.trod_struct hs h
  rw [hC] at hlen
  match cs, hlen, xs, hxl with
  | c0 :: r, hlen, [y0, y1], _ =>
    have hr : r.length = k := by simpa using hlen
    refine ⟨c0, r, y0, y1, n, rfl, hr, by simpa [o0, k0] using hg 0 f0 rfl, ?_⟩
    have := hg 1 f1 rfl
    rw [o1, k1] at this
    simp only [List.drop_succ_cons, List.drop_zero] at this
    rw [List.take_of_length_le (by omega)] at this
    simpa using this
set_option maxRecDepth 100000 in
theorem open3 {t : TypeId} {f0 f1 f2 : Field} {fuel : Nat} {cs : List Value} {x : DataW H × List MemPlace} (hs : Try.prog.underlying t = some (.struct #[f0, f1, f2])) (o0 : f0.offset = 0) (k0 : Try.prog.cellsOf f0.type = 1) (o1 : f1.offset = 1) (k1 : Try.prog.cellsOf f1.type = 1) (o2 : f2.offset = 2) (k2 : Try.prog.cellsOf f2.type = 1) (hC : Try.prog.cellsOf t = 3)
    (h : DataW.trod enc Try.prog W 0 (fun _ => true) held fuel t cs = some x) :
    ∃ (c0 c1 c2 : Value) (y0 y1 y2 : DataW H × List MemPlace) (n : Nat), cs = [c0, c1, c2] ∧ DataW.trod enc Try.prog W 0 (fun _ => true) held n f0.type [c0] = some y0 ∧ DataW.trod enc Try.prog W 0 (fun _ => true) held n f1.type [c1] = some y1 ∧ DataW.trod enc Try.prog W 0 (fun _ => true) held n f2.type [c2] = some y2 := by
  obtain ⟨xs, n, _, _, hlen, hxl, hg⟩ := DataW.trod_struct hs h
  rw [hC] at hlen
  match cs, hlen, xs, hxl with
  | [c0, c1, c2], _, [y0, y1, y2], _ =>
    exact ⟨c0, c1, c2, y0, y1, y2, n, rfl, by simpa [o0, k0] using hg 0 f0 rfl, by simpa [o1, k1] using hg 1 f1 rfl, by simpa [o2, k2] using hg 2 f2 rfl⟩
set_option maxRecDepth 100000 in
theorem val_open {fuel : Nat} {cs : List Value} {x : DataW H × List MemPlace} (h : DataW.trod enc Try.prog W 0 (fun _ => true) held fuel 74 cs = some x) : ∃ (kd n : Int) (s : ByteArray), cs = [.int .u8 kd, .int .i64 n, .string s] ∧ s.size ≤ maxLen := by
  obtain ⟨c0, c1, c2, y0, y1, y2, m, rfl, t0, t1, t2⟩ := open3 Try.underlying74 rfl (by kernel_rfl) rfl (by kernel_rfl) rfl (by kernel_rfl) (by kernel_rfl) h
  obtain ⟨k, e0, x0, w0⟩ := DataW.trod_int Try.underlying5 t0
  obtain ⟨n, e1, x1, w1⟩ := DataW.trod_int Try.underlying2 t1
  obtain ⟨s, e2, x2, w2⟩ := DataW.trod_string Try.underlying9 t2
  simp only [List.cons.injEq, and_true] at e0 e1 e2
  subst e0; subst e1; subst e2
  exact ⟨k, n, s, rfl, w2⟩
set_option maxRecDepth 100000 in
theorem prop_open {fuel : Nat} {cs : List Value} {x : DataW H × List MemPlace} (h : DataW.trod enc Try.prog W 0 (fun _ => true) held fuel 86 cs = some x) : cs.length = 4 ∧ ∃ t : Hf, cs = kc .u8 t ∧ t.2.2.2.size ≤ maxLen := by
  obtain ⟨c0, r, y0, y1, n, rfl, hr, t0, t1⟩ := open2 (k := 3) Try.underlying86 rfl (by kernel_rfl) rfl (by kernel_rfl) (by kernel_rfl) h
  obtain ⟨a, e, _, w0⟩ := DataW.trod_int Try.underlying5 t0
  obtain ⟨k, m, s, rfl, hs⟩ := val_open t1
  simp only [List.cons.injEq, and_true] at e
  subst e
  exact ⟨rfl, (a, k, m, s), rfl, hs⟩
set_option maxRecDepth 100000 in
theorem half_open {fuel : Nat} {cs : List Value} {x : DataW H × List MemPlace} (h : DataW.trod enc Try.prog W 0 (fun _ => true) held fuel 76 cs = some x) : cs.length = 4 ∧ ∃ t : Hf, cs = kc .u32 t ∧ t.2.2.2.size ≤ maxLen ∧ In32 t.1 := by
  obtain ⟨c0, r, y0, y1, n, rfl, hr, t0, t1⟩ := open2 (k := 3) Try.underlying76 rfl (by kernel_rfl) rfl (by kernel_rfl) (by kernel_rfl) h
  obtain ⟨a, e, _, w0⟩ := DataW.trod_int Try.underlying24 t0
  obtain ⟨k, m, s, rfl, hs⟩ := val_open t1
  simp only [List.cons.injEq, and_true] at e
  subst e
  exact ⟨rfl, (a, k, m, s), rfl, hs, w0⟩
/-- Nothing that is read weighs more than reaches. -/
def Wt (t : TypeId) (d : DataW H) : Prop := ∀ n ∈ DataW.weights Try.prog t d, n ≤ reachBytes
theorem wt_mem {e : TypeId} : ∀ {es : List (DataW H)} {d : DataW H}, d ∈ es → ∀ n ∈ DataW.weights Try.prog e d, n ∈ DataW.weightsAll Try.prog e es
  | x :: es, d, h, n, hn => by
    simp only [DataW.weightsAll, List.mem_append]
    rcases List.mem_cons.1 h with rfl | h
    · exact .inl hn
    · exact .inr (wt_mem h n hn)
set_option maxRecDepth 100000 in
/-- Properties, or halves, that came in. -/
theorem items_open {t e fuel : Nat} (k : IntKind) (Q : Hf → Prop) (ht : Try.prog.underlying t = some (.slice e)) (hk : Try.prog.cellsOf e = 4) (hby : Try.prog.bytesOf e = 40)
    (hel : ∀ (fuel : Nat) (cs : List Value) (x : DataW H × List MemPlace), DataW.trod enc Try.prog W 0 (fun _ => true) held fuel e cs = some x → cs.length = 4 ∧ ∃ t : Hf, cs = kc k t ∧ Q t)
    {v : Value} {x : DataW H × List MemPlace} (hf : DataW.trod enc Try.prog W 0 (fun _ => true) held fuel t [v] = some x) :
    ∃ (ao : Option Addr) (cap : Nat) (L : List Hf), v = .slice ao L.length cap ∧ L.length ≤ cap ∧ cap ≤ maxLen ∧ (ao = none → cap = 0) ∧ RdK k W ao L ∧ (∀ t ∈ L, Q t) ∧ (Wt t x.1 → L.length * 40 ≤ 140737488355328) := by
  obtain ⟨ao, len, cap, D, E, rfl, h1, h2, h3, h4, h5, h6⟩ := open_rows ht hk (by decide) (fun cs _ => ∃ t : Hf, cs = kc k t ∧ Q t) (fun fuel cs x hx => hel fuel cs x hx) hf
  have hl : ((List.range len).map fun i => if hi : i < len then Classical.choose (h5 i hi) else fh 0).length = len := by simp
  have hat : ∀ i t, ((List.range len).map fun i => if hi : i < len then Classical.choose (h5 i hi) else fh 0)[i]? = some t → ∃ hi : i < len, t = Classical.choose (h5 i hi) := by
    intro i t ht
    have hi : i < len := by
      have := (List.getElem?_eq_some_iff.1 ht).1
      rwa [hl] at this
    simp [hi] at ht
    exact ⟨hi, ht.symm⟩
  refine ⟨ao, cap, (List.range len).map fun i => if hi : i < len then Classical.choose (h5 i hi) else fh 0, by rw [hl], by rw [hl]; exact h1, h2, h3, fun i t ht => ?_, fun t ht => ?_, ?_⟩
  · obtain ⟨hi, rfl⟩ := hat i t ht
    have hs := (Classical.choose_spec (h5 i hi)).1
    obtain ⟨b, off, e, hb, _, hc⟩ := h4 i hi
    have hcell : ∀ j u, j < 4 → (kc k (Classical.choose (h5 i hi)))[j]? = some u → W.cell? ⟨b, off + i * 4 + j, none⟩ = some u := fun j u hj hu => by
      rw [hc j hj, hs]; exact hu
    exact ⟨b, off, e, hb, hcell 0 _ (by decide) rfl, hcell 1 _ (by decide) rfl, hcell 2 _ (by decide) rfl, hcell 3 _ (by decide) rfl⟩
  · obtain ⟨i, hget⟩ := List.getElem?_of_mem ht
    obtain ⟨hi, e⟩ := hat i t hget
    rw [e]
    exact (Classical.choose_spec (h5 i hi)).2
  · intro hw
    rw [hl]
    rcases h6 with h | ⟨sp, h⟩
    · omega
    · rw [h] at hw
      have := hw ((((List.range len).map E).length + sp.length) * 40) (by simp only [DataW.weights, ht, hby]; exact List.mem_cons_self ..)
      simp only [List.length_map, List.length_range, reachBytes] at this
      omega
set_option maxRecDepth 100000 in
theorem open4 {t : TypeId} {f0 f1 f2 f3 : Field} {fuel : Nat} {cs : List Value} {x : DataW H × List MemPlace} (hs : Try.prog.underlying t = some (.struct #[f0, f1, f2, f3])) (o0 : f0.offset = 0) (k0 : Try.prog.cellsOf f0.type = 1) (o1 : f1.offset = 1) (k1 : Try.prog.cellsOf f1.type = 1) (o2 : f2.offset = 2) (k2 : Try.prog.cellsOf f2.type = 1) (o3 : f3.offset = 3) (k3 : Try.prog.cellsOf f3.type = 1) (hC : Try.prog.cellsOf t = 4)
    (h : DataW.trod enc Try.prog W 0 (fun _ => true) held fuel t cs = some x) :
    ∃ (c0 c1 c2 c3 : Value) (y0 y1 y2 y3 : DataW H × List MemPlace) (n : Nat), cs = [c0, c1, c2, c3] ∧ x.1 = .agg [y0.1, y1.1, y2.1, y3.1] ∧ DataW.trod enc Try.prog W 0 (fun _ => true) held n f0.type [c0] = some y0 ∧ DataW.trod enc Try.prog W 0 (fun _ => true) held n f1.type [c1] = some y1 ∧ DataW.trod enc Try.prog W 0 (fun _ => true) held n f2.type [c2] = some y2 ∧ DataW.trod enc Try.prog W 0 (fun _ => true) held n f3.type [c3] = some y3 := by
  obtain ⟨xs, n, hn, hx, hlen, hxl, hg⟩ := DataW.trod_struct hs h
  rw [hC] at hlen
  match cs, hlen, xs, hxl with
  | [c0, c1, c2, c3], _, [y0, y1, y2, y3], _ =>
    exact ⟨c0, c1, c2, c3, y0, y1, y2, y3, n, rfl, by rw [hx]; rfl, by simpa [o0, k0] using hg 0 f0 rfl, by simpa [o1, k1] using hg 1 f1 rfl, by simpa [o2, k2] using hg 2 f2 rfl, by simpa [o3, k3] using hg 3 f3 rfl⟩
end
section
variable {H : Type} {enc : TypeId × Value → H} {W : World} {held : Bool}
set_option maxRecDepth 100000 in
theorem prop_open2 {fuel : Nat} {cs : List Value} {x : DataW H × List MemPlace} (h : DataW.trod enc Try.prog W 0 (fun _ => true) held fuel 86 cs = some x) : cs.length = 4 ∧ ∃ t : Hf, cs = kc .u8 t ∧ t.2.2.2.size ≤ maxLen ∧ (Lit.int .u8 t.1).wf = true := by
  obtain ⟨c0, r, y0, y1, n, rfl, hr, t0, t1⟩ := open2 (k := 3) Try.underlying86 rfl (by kernel_rfl) rfl (by kernel_rfl) (by kernel_rfl) h
  obtain ⟨a, e, _, w0⟩ := DataW.trod_int Try.underlying5 t0
  obtain ⟨k, m, s, rfl, hs⟩ := val_open t1
  simp only [List.cons.injEq, and_true] at e
  subst e
  exact ⟨rfl, (a, k, m, s), rfl, hs, w0⟩
set_option maxRecDepth 100000 in
/-- A vertex that came by value. -/
theorem open_vertex2 {b0 : Nat} {v : Value} {d : DataW H} {p : List MemPlace} (hv : Value.okWide Try.prog W .any b0 28 v) (h : DataW.Trod enc Try.prog W 0 (fun _ => true) held 28 v d p) (hw : Wt 28 d) :
    ∃ u : Vv, v = u.val ∧ u.fit W ∧ u.short ∧ In32 u.id := by
  obtain ⟨c0, c1, c2, c3, y0, y1, y2, y3, n, rfl, rfl, rfl, t0, t1, t2, t3⟩ := open_agg4 Try.underlying28 (by kernel_rfl) (by kernel_rfl) hv h
  obtain ⟨a, e, _, w0⟩ := DataW.trod_int Try.underlying24 t0
  simp only [List.cons.injEq, and_true] at e
  subst e
  obtain ⟨b, e1, _⟩ := DataW.trod_bool Try.underlying4 t1
  simp only [List.cons.injEq, and_true] at e1
  subst e1
  obtain ⟨po, pc, P, rfl, p1, p2, p3, p4, p5, p6⟩ := items_open .u8 (fun t => t.2.2.2.size ≤ maxLen ∧ (Lit.int .u8 t.1).wf = true) Try.underlying25 (by kernel_rfl) (by kernel_rfl) (fun fuel cs x hx => prop_open2 hx) t2
  obtain ⟨ho, hc, L, rfl, h1, h2, h3, h4, h5, h6⟩ := items_open .u32 (fun t => t.2.2.2.size ≤ maxLen ∧ In32 t.1) Try.underlying26 (by kernel_rfl) (by kernel_rfl) (fun fuel cs x hx => half_open hx) t3
  have hw2 : ∀ n, n ∈ DataW.weights Try.prog 25 y2.1 ∨ n ∈ DataW.weights Try.prog 26 y3.1 → n ≤ reachBytes := fun n hn => hw n (by
    simp only [DataW.weights, Try.underlying28, List.map_cons, List.map_nil, DataW.weightsEach, List.mem_append]
    rcases hn with hn | hn
    · exact .inr (.inr (.inl hn))
    · exact .inr (.inr (.inr (.inl hn))))
  exact ⟨⟨a, b, po, pc, P, ho, hc, L⟩, rfl, ⟨⟨p4, h4, fun t ht => (p5 t ht).1, fun t ht => (h5 t ht).1, Nat.le_trans p1 p2, Nat.le_trans h1 h2⟩, fun t ht => (p5 t ht).2, fun t ht => (h5 t ht).2⟩,
    ⟨p6 (fun n hn => hw2 n (.inl hn)), h6 (fun n hn => hw2 n (.inr hn)), p3, h3⟩, w0⟩
end
end Go.Proofs.Ytgjjfodogkcmmaa.Gh
namespace Go.Proofs.Ytgjjfodogkcmmaa.Gh
open Go Go.ChangeShapes Go.WideShapes Go.ChangeAt Go.RowKit Go.Joins Go.ChangeMaps Go.Deep Ytgjjfodogkcmmaa.Vl
section
variable {H : Type} {enc : TypeId × Value → H} {W : World} {held : Bool}
def VIn (W : World) (v : Vv) (d : DataW H) : Prop := v.fit W ∧ In32 v.id ∧ v.L.length ≤ v.hc ∧ (v.po = none → v.pc = 0) ∧ (v.ho = none → v.hc = 0) ∧ (Wt 28 d → v.P.length * 40 ≤ 140737488355328 ∧ v.L.length * 40 ≤ 140737488355328)
set_option maxRecDepth 100000 in
theorem vertex_open {fuel : Nat} {cs : List Value} {x : DataW H × List MemPlace} (h : DataW.trod enc Try.prog W 0 (fun _ => true) held fuel 28 cs = some x) : cs.length = 4 ∧ ∃ v : Vv, cs = v.vx.cells.toList ∧ VIn W v x.1 := by
  obtain ⟨c0, c1, c2, c3, y0, y1, y2, y3, n, rfl, hx, t0, t1, t2, t3⟩ := open4 Try.underlying28 rfl (by kernel_rfl) rfl (by kernel_rfl) rfl (by kernel_rfl) rfl (by kernel_rfl) (by kernel_rfl) h
  obtain ⟨a, e, _, w0⟩ := DataW.trod_int Try.underlying24 t0
  simp only [List.cons.injEq, and_true] at e
  subst e
  obtain ⟨b, e1, _⟩ := DataW.trod_bool Try.underlying4 t1
  simp only [List.cons.injEq, and_true] at e1
  subst e1
  obtain ⟨po, pc, P, rfl, p1, p2, p3, p4, p5, p6⟩ := items_open .u8 (fun t => t.2.2.2.size ≤ maxLen ∧ (Lit.int .u8 t.1).wf = true) Try.underlying25 (by kernel_rfl) (by kernel_rfl) (fun fuel cs x hx => prop_open2 hx) t2
  obtain ⟨ho, hc, L, rfl, h1, h2, h3, h4, h5, h6⟩ := items_open .u32 (fun t => t.2.2.2.size ≤ maxLen ∧ In32 t.1) Try.underlying26 (by kernel_rfl) (by kernel_rfl) (fun fuel cs x hx => half_open hx) t3
  refine ⟨rfl, ⟨a, b, po, pc, P, ho, hc, L⟩, rfl, ⟨⟨p4, h4, fun t ht => (p5 t ht).1, fun t ht => (h5 t ht).1, Nat.le_trans p1 p2, Nat.le_trans h1 h2⟩, fun t ht => (p5 t ht).2, fun t ht => (h5 t ht).2⟩, w0, h1, p3, h3, ?_⟩
  intro hw
  rw [hx] at hw
  have hw2 : ∀ n, n ∈ DataW.weights Try.prog 25 y2.1 ∨ n ∈ DataW.weights Try.prog 26 y3.1 → n ≤ reachBytes := fun n hn => hw n (by
    simp only [DataW.weights, Try.underlying28, List.map_cons, List.map_nil, DataW.weightsEach, List.mem_append]
    rcases hn with hn | hn
    · exact .inr (.inr (.inl hn))
    · exact .inr (.inr (.inr (.inl hn))))
  exact ⟨p6 (fun n hn => hw2 n (.inl hn)), h6 (fun n hn => hw2 n (.inr hn))⟩
set_option maxRecDepth 100000 in
/-- Vertices that came in. -/
theorem open_vs {b0 : Nat} {v : Value} {d : DataW H} {p : List MemPlace} (hv : Value.okWide Try.prog W .any b0 22 v) (h : DataW.Trod enc Try.prog W 0 (fun _ => true) held 22 v d p) (hw : Wt 22 d) :
    ∃ (ao : Option Addr) (cap : Nat) (Vs : List Vv), v = .slice ao Vs.length cap ∧ Vs.length ≤ maxLen ∧ TaIn W ao Vs := by
  obtain ⟨a, len0, cap0, rfl⟩ := okWide_slice Try.underlying22 hv
  obtain ⟨fuel, hf⟩ := h
  simp only [Value.cells] at hf
  obtain ⟨ao, len, cap, D, E, ev, h1, h2, h3, h4, h5, h6⟩ := open_rows Try.underlying22 (show Try.prog.cellsOf 28 = 4 by kernel_rfl) (by decide) (fun cs d => ∃ v : Vv, cs = v.vx.cells.toList ∧ VIn W v d) (fun fuel cs x hx => vertex_open hx) hf
  rw [ev]
  have hl : ((List.range len).map fun i => if hi : i < len then Classical.choose (h5 i hi) else ⟨0, false, none, 0, [], none, 0, []⟩).length = len := by simp
  have hat : ∀ i t, ((List.range len).map fun i => if hi : i < len then Classical.choose (h5 i hi) else ⟨0, false, none, 0, [], none, 0, []⟩)[i]? = some t → ∃ hi : i < len, t = Classical.choose (h5 i hi) := by
    intro i t ht
    have hi : i < len := by
      have := (List.getElem?_eq_some_iff.1 ht).1
      rwa [hl] at this
    simp [hi] at ht
    exact ⟨hi, ht.symm⟩
  have hbd : ∀ i, i < len → Wt 28 (E i) := fun i hi n hn => by
    rcases h6 with h | ⟨sp, h⟩
    · omega
    · simp only at h
      rw [h] at hw
      refine hw n ?_
      simp only [DataW.weights, Try.underlying22]
      exact List.mem_cons_of_mem _ (List.mem_append_left _ (wt_mem (List.mem_map.2 ⟨i, List.mem_range.2 hi, rfl⟩) n hn))
  refine ⟨ao, cap, (List.range len).map fun i => if hi : i < len then Classical.choose (h5 i hi) else ⟨0, false, none, 0, [], none, 0, []⟩, by rw [hl], by rw [hl]; exact Nat.le_trans h1 h2, fun i t ht => ?_⟩
  obtain ⟨hi, rfl⟩ := hat i t ht
  obtain ⟨hs, hok, hid, hL, hpo, hho, hbk⟩ := Classical.choose_spec (h5 i hi)
  have hb1 := hbd i hi
  obtain ⟨b, off, e, hb, _, hc⟩ := h4 i hi
  generalize Classical.choose (h5 i hi) = u at hs hid hL hok hpo hho hbk ⊢
  have hcell : ∀ j w, j < 4 → u.vx.cells.toList[j]? = some w → W.cell? ⟨b, off + i * 4 + j, none⟩ = some w := fun j w hj hu => by
    rw [hc j hj, hs]; exact hu
  exact ⟨⟨hok, ⟨(hbk hb1).1, (hbk hb1).2, hpo, hho⟩, hid, hL⟩, b, off, e, hb, hcell 0 _ (by decide) rfl, hcell 1 _ (by decide) rfl, hcell 2 _ (by decide) rfl, hcell 3 _ (by decide) rfl⟩
end
end Go.Proofs.Ytgjjfodogkcmmaa.Gh
