/- graph: what its rows need: a script that came in, opened. -/
import Derived.Test.YtafenkepigmcaaaGreatDoorNL
import Derived.Test.YtafenkepigmcaaaGreatDoorRows
import Derived.ProofKit
import Derived.OpenShut
import Derived.Deep.Slices
import Derived.Deep.Fields
import Derived.Carry
import Derived.Lib.SmallJoins
namespace Go.Proofs.YtafenkepigmcaaaGreatDoor.Gr
open Go Go.ChangeShapes Go.WideShapes Go.ChangeAt Go.RowKit Go.Joins Go.ChangeMaps Go.Deep
section
variable {H : Type} {enc : TypeId × Value → H} {W : World} {held : Bool}
set_option maxRecDepth 100000 in
/-- A list that came in, of elements of k cells each, with what it reads as. -/
theorem open_rows {t e k fuel : Nat} (ht : Tryz.prog.underlying t = some (.slice e)) (hk : Tryz.prog.cellsOf e = k) (k0 : 0 < k) (Pp : List Value → DataW H → Prop)
    (hel : ∀ (fuel : Nat) (cs : List Value) (x : DataW H × List MemPlace), DataW.trod enc Tryz.prog W 0 (fun _ => true) held fuel e cs = some x → cs.length = k ∧ Pp cs x.1)
    {v : Value} {x : DataW H × List MemPlace} (hf : DataW.trod enc Tryz.prog W 0 (fun _ => true) held fuel t [v] = some x) :
    ∃ (ao : Option Addr) (len cap : Nat) (D : Nat → List Value) (E : Nat → DataW H), v = .slice ao len cap ∧ len ≤ cap ∧ cap ≤ maxLen ∧ (ao = none → cap = 0) ∧
      (∀ i, i < len → ∃ b off, ao = some ⟨b, off, none⟩ ∧ b < W.heap.size ∧ (D i).length = k ∧ ∀ j, j < k → W.cell? ⟨b, off + i * k + j, none⟩ = (D i)[j]?) ∧
      (∀ i, i < len → Pp (D i) (E i)) ∧ (len = 0 ∨ ∃ sp, x.1 = .slice ((List.range len).map E) sp) := by
  rcases open_slice ht hf with ⟨hcs, _⟩ | ⟨a', len', cap', m, n, E, Pl, hcs, _, hl, hm, hmm, hx, hi⟩
  · simp only [List.cons.injEq, and_true] at hcs
    subst hcs
    exact ⟨none, 0, 0, fun _ => [], fun _ => .nil, rfl, Nat.le_refl _, Nat.zero_le _, fun _ => rfl, fun i hi => absurd hi (Nat.not_lt_zero _), fun i hi => absurd hi (Nat.not_lt_zero _), .inl rfl⟩
  · simp only [List.cons.injEq, and_true] at hcs
    subst hcs
    have hmc : m = cap' := by rw [hmm]; rfl
    rw [hk] at hi
    have each : ∀ i, i < len' → ∃ cs : List Value, (cs.length = k ∧ Pp cs (E i)) ∧ ∀ j, j < k → W.cell? ((a'.add (i * k)).add j) = cs[j]? := by
      intro i hil
      obtain ⟨cs', hc, hx⟩ := hi i (by omega)
      exact ⟨cs', hel _ _ _ hx, (World.cells?_some hc).2.2⟩
    refine ⟨some a', len', cap', fun i => if hil : i < len' then Classical.choose (each i hil) else [], E, rfl, hl, hm, (fun e => by cases e), fun i hil => ?_, fun i hil => ?_, .inr ⟨_, by rw [hx]⟩⟩
    · have hcs := Classical.choose_spec (each i hil)
      simp only [dif_pos hil]
      generalize Classical.choose (each i hil) = csi at hcs ⊢
      obtain ⟨b, off, spot⟩ := a'
      have hsp : spot = none := by
        obtain ⟨cs0, hl0, hc0⟩ := each 0 (by omega)
        have := hc0 0 k0
        rw [List.getElem?_eq_getElem (by omega)] at this
        simp only [Nat.zero_mul, Addr.add, if_true] at this
        exact World.cell?_spot this
      subst hsp
      have hc : ∀ j, j < k → W.cell? ⟨b, off + i * k + j, none⟩ = csi[j]? := fun j hj => by
        have := hcs.2 j hj
        rwa [Go.WideShapes.add_plain, Go.WideShapes.add_plain] at this
      have hb : b < W.heap.size := by
        have := hc 0 k0
        rw [List.getElem?_eq_getElem (by omega)] at this
        exact World.block_lt_of_cell? W _ this
      exact ⟨b, off, rfl, hb, hcs.1.1, hc⟩
    · have hcs := Classical.choose_spec (each i hil)
      simp only [dif_pos hil]
      exact hcs.1.2
set_option maxRecDepth 100000 in
theorem open3 {t : TypeId} {f0 f1 f2 : Field} {fuel : Nat} {cs : List Value} {x : DataW H × List MemPlace} (hs : Tryz.prog.underlying t = some (.struct #[f0, f1, f2])) (o0 : f0.offset = 0) (k0 : Tryz.prog.cellsOf f0.type = 1) (o1 : f1.offset = 1) (k1 : Tryz.prog.cellsOf f1.type = 1) (o2 : f2.offset = 2) (k2 : Tryz.prog.cellsOf f2.type = 1) (hC : Tryz.prog.cellsOf t = 3)
    (h : DataW.trod enc Tryz.prog W 0 (fun _ => true) held fuel t cs = some x) :
    ∃ (c0 c1 c2 : Value) (y0 y1 y2 : DataW H × List MemPlace) (n : Nat), cs = [c0, c1, c2] ∧ DataW.trod enc Tryz.prog W 0 (fun _ => true) held n f0.type [c0] = some y0 ∧ DataW.trod enc Tryz.prog W 0 (fun _ => true) held n f1.type [c1] = some y1 ∧ DataW.trod enc Tryz.prog W 0 (fun _ => true) held n f2.type [c2] = some y2 := by
  obtain ⟨xs, n, _, _, hlen, hxl, hg⟩ := DataW.trod_struct hs h
  rw [hC] at hlen
  match cs, hlen, xs, hxl with
  | [c0, c1, c2], _, [y0, y1, y2], _ =>
    exact ⟨c0, c1, c2, y0, y1, y2, n, rfl, by simpa [o0, k0] using hg 0 f0 rfl, by simpa [o1, k1] using hg 1 f1 rfl, by simpa [o2, k2] using hg 2 f2 rfl⟩
/-- Nothing that is read weighs more than reaches. -/
def Wt (t : TypeId) (d : DataW H) : Prop := ∀ n ∈ DataW.weights Tryz.prog t d, n ≤ reachBytes
theorem wt_mem {e : TypeId} : ∀ {es : List (DataW H)} {d : DataW H}, d ∈ es → ∀ n ∈ DataW.weights Tryz.prog e d, n ∈ DataW.weightsAll Tryz.prog e es
  | x :: es, d, h, n, hn => by
    simp only [DataW.weightsAll, List.mem_append]
    rcases List.mem_cons.1 h with rfl | h
    · exact .inl hn
    · exact .inr (wt_mem h n hn)
set_option maxRecDepth 100000 in
theorem open5 {t : TypeId} {f0 f1 f2 f3 f4 : Field} {k : Nat} {fuel : Nat} {cs : List Value} {x : DataW H × List MemPlace} (hs : Tryz.prog.underlying t = some (.struct #[f0, f1, f2, f3, f4])) (o0 : f0.offset = 0) (k0 : Tryz.prog.cellsOf f0.type = 1) (o1 : f1.offset = 1) (k1 : Tryz.prog.cellsOf f1.type = 1) (o2 : f2.offset = 2) (k2 : Tryz.prog.cellsOf f2.type = 1) (o3 : f3.offset = 3) (k3 : Tryz.prog.cellsOf f3.type = 1) (o4 : f4.offset = 4) (k4 : Tryz.prog.cellsOf f4.type = k) (hC : Tryz.prog.cellsOf t = k + 4)
    (h : DataW.trod enc Tryz.prog W 0 (fun _ => true) held fuel t cs = some x) :
    ∃ (c0 c1 c2 c3 : Value) (r : List Value) (y0 y1 y2 y3 y4 : DataW H × List MemPlace) (n : Nat), cs = c0 :: c1 :: c2 :: c3 :: r ∧ r.length = k ∧ x.1 = .agg [y0.1, y1.1, y2.1, y3.1, y4.1] ∧ DataW.trod enc Tryz.prog W 0 (fun _ => true) held n f0.type [c0] = some y0 ∧ DataW.trod enc Tryz.prog W 0 (fun _ => true) held n f1.type [c1] = some y1 ∧ DataW.trod enc Tryz.prog W 0 (fun _ => true) held n f2.type [c2] = some y2 ∧ DataW.trod enc Tryz.prog W 0 (fun _ => true) held n f3.type [c3] = some y3 ∧ DataW.trod enc Tryz.prog W 0 (fun _ => true) held n f4.type r = some y4 := by
  obtain ⟨xs, n, hn, hx, hlen, hxl, hg⟩ := DataW.trod_struct hs h
  rw [hC] at hlen
  match cs, hlen, xs, hxl with
  | c0 :: c1 :: c2 :: c3 :: r, hlen, [y0, y1, y2, y3, y4], _ =>
    have hr : r.length = k := by simpa using hlen
    refine ⟨c0, c1, c2, c3, r, y0, y1, y2, y3, y4, n, rfl, hr, by rw [hx]; rfl, by simpa [o0, k0] using hg 0 f0 rfl, by simpa [o1, k1] using hg 1 f1 rfl, by simpa [o2, k2] using hg 2 f2 rfl, by simpa [o3, k3] using hg 3 f3 rfl, ?_⟩
    have := hg 4 f4 rfl
    rw [o4, k4] at this
    simp only [List.drop_succ_cons, List.drop_zero] at this
    rw [List.take_of_length_le (by omega)] at this
    simpa using this
set_option maxRecDepth 100000 in
theorem op_open {fuel : Nat} {cs : List Value} {x : DataW H × List MemPlace} (h : DataW.trod enc Tryz.prog W 0 (fun _ => true) held fuel 75 cs = some x) : cs.length = 7 ∧ ∃ o : Ox, cs = opC o ∧ o.wf := by
  obtain ⟨c0, c1, c2, c3, r, y0, y1, y2, y3, y4, n, rfl, hr, hx, t0, t1, t2, t3, t4⟩ := open5 (k := 3) Tryz.underlying75 rfl (by kernel_rfl) rfl (by kernel_rfl) rfl (by kernel_rfl) rfl (by kernel_rfl) rfl (by kernel_rfl) (by kernel_rfl) h
  obtain ⟨kd, e0, _, w0⟩ := DataW.trod_int Tryz.underlying5 t0
  obtain ⟨A, e1, _, w1⟩ := DataW.trod_int Tryz.underlying23 t1
  obtain ⟨B, e2, _, w2⟩ := DataW.trod_int Tryz.underlying23 t2
  obtain ⟨key, e3, _, w3⟩ := DataW.trod_int Tryz.underlying5 t3
  obtain ⟨d0, d1, d2, z0, z1, z2, m, rfl, s0, s1, s2⟩ := open3 Tryz.underlying47 rfl (by kernel_rfl) rfl (by kernel_rfl) rfl (by kernel_rfl) (by kernel_rfl) t4
  obtain ⟨k, e4, _, w4⟩ := DataW.trod_int Tryz.underlying5 s0
  obtain ⟨q, e5, _, w5⟩ := DataW.trod_int Tryz.underlying2 s1
  obtain ⟨s, e6, _, w6⟩ := DataW.trod_string Tryz.underlying9 s2
  simp only [List.cons.injEq, and_true] at e0 e1 e2 e3 e4 e5 e6
  subst e0; subst e1; subst e2; subst e3; subst e4; subst e5; subst e6
  exact ⟨rfl, ⟨kd, A, B, key, ⟨k, q, s⟩⟩, rfl, w0, w1, w2, w3, w4, w5, w6⟩
def o0 : Ox := ⟨0, 0, 0, 0, zA⟩
set_option maxRecDepth 100000 in
/-- Operations that came in. -/
theorem ops_open {fuel : Nat} {v : Value} {x : DataW H × List MemPlace} (hf : DataW.trod enc Tryz.prog W 0 (fun _ => true) held fuel 31 [v] = some x) :
    ∃ (ao : Option Addr) (cap : Nat) (os : List Ox), v = .slice ao os.length cap ∧ (ao = none → cap = 0) ∧ RdO W ao os ∧ (∀ o ∈ os, o.wf) ∧ (Wt 31 x.1 → os.length * 48 ≤ 140737488355328) := by
  obtain ⟨ao, len, cap, D, E, rfl, h1, h2, h3, h4, h5, h6⟩ := open_rows Tryz.underlying31 (show Tryz.prog.cellsOf 75 = 7 by kernel_rfl) (by decide) (fun cs _ => ∃ o : Ox, cs = opC o ∧ o.wf) (fun fuel cs x hx => op_open hx) hf
  have hl : ((List.range len).map fun i => if hi : i < len then Classical.choose (h5 i hi) else o0).length = len := by simp
  have hat : ∀ i t, ((List.range len).map fun i => if hi : i < len then Classical.choose (h5 i hi) else o0)[i]? = some t → ∃ hi : i < len, t = Classical.choose (h5 i hi) := by
    intro i t ht
    have hi : i < len := by
      have := (List.getElem?_eq_some_iff.1 ht).1
      rwa [hl] at this
    simp [hi] at ht
    exact ⟨hi, ht.symm⟩
  refine ⟨ao, cap, (List.range len).map fun i => if hi : i < len then Classical.choose (h5 i hi) else o0, by rw [hl], h3, fun i t ht => ?_, fun t ht => ?_, ?_⟩
  · obtain ⟨hi, rfl⟩ := hat i t ht
    have hs := (Classical.choose_spec (h5 i hi)).1
    obtain ⟨b, off, e, hb, _, hc⟩ := h4 i hi
    have hcell : ∀ j u, j < 7 → (opC (Classical.choose (h5 i hi)))[j]? = some u → W.cell? ⟨b, off + i * 7 + j, none⟩ = some u := fun j u hj hu => by
      rw [hc j hj, hs]; exact hu
    exact ⟨b, off, e, hb, hcell 0 _ (by decide) rfl, hcell 1 _ (by decide) rfl, hcell 2 _ (by decide) rfl, hcell 3 _ (by decide) rfl, hcell 4 _ (by decide) rfl, hcell 5 _ (by decide) rfl, hcell 6 _ (by decide) rfl⟩
  · obtain ⟨i, hget⟩ := List.getElem?_of_mem ht
    obtain ⟨hi, e⟩ := hat i t hget
    rw [e]
    exact (Classical.choose_spec (h5 i hi)).2
  · intro hw
    rw [hl]
    rcases h6 with h | ⟨sp, h⟩
    · omega
    · rw [h] at hw
      have := hw ((((List.range len).map E).length + sp.length) * 48) (by simp only [DataW.weights, Tryz.underlying31, show Tryz.prog.bytesOf 75 = 48 by kernel_rfl]; exact List.mem_cons_self ..)
      simp only [List.length_map, List.length_range, reachBytes] at this
      omega
/-- A request that came in. -/
def RqIn (W : World) (r : Rq) (ao : Option Addr) (cap : Nat) (d : DataW H) : Prop := RdO W ao r.os ∧ (ao = none → cap = 0) ∧ (∀ o ∈ r.os, o.wf) ∧ In32 r.V ∧ (Wt 33 d → r.os.length * 48 ≤ 140737488355328)
def rC (r : Rq) (ao : Option Addr) (cap : Nat) : List Value := [.int .u8 r.kd, .slice ao r.os.length cap, .int .u32 r.V, .int .i64 r.K, .int .i64 r.To]
set_option maxRecDepth 100000 in
theorem request_open {fuel : Nat} {cs : List Value} {x : DataW H × List MemPlace} (h : DataW.trod enc Tryz.prog W 0 (fun _ => true) held fuel 33 cs = some x) : cs.length = 5 ∧ ∃ q : Rq × Option Addr × Nat, cs = rC q.1 q.2.1 q.2.2 ∧ RqIn W q.1 q.2.1 q.2.2 x.1 := by
  obtain ⟨c0, c1, c2, c3, r, y0, y1, y2, y3, y4, n, rfl, hr, hx, t0, t1, t2, t3, t4⟩ := open5 (k := 1) Tryz.underlying33 rfl (by kernel_rfl) rfl (by kernel_rfl) rfl (by kernel_rfl) rfl (by kernel_rfl) rfl (by kernel_rfl) (by kernel_rfl) h
  obtain ⟨kd, e0, _, w0⟩ := DataW.trod_int Tryz.underlying5 t0
  obtain ⟨V, e2, _, w2⟩ := DataW.trod_int Tryz.underlying23 t2
  obtain ⟨K, e3, _, w3⟩ := DataW.trod_int Tryz.underlying3 t3
  obtain ⟨To, e4, _, w4⟩ := DataW.trod_int Tryz.underlying3 t4
  obtain ⟨ao, cap, os, rfl, g1, g2, g3, g4⟩ := ops_open t1
  simp only [List.cons.injEq, and_true] at e0 e2 e3
  subst e0; subst e2; subst e3; subst e4
  refine ⟨rfl, ⟨⟨kd, os, V, K, To⟩, ao, cap⟩, rfl, g2, g1, g3, w2, fun hw => g4 (fun n hn => hw n ?_)⟩
  rw [hx]
  simp only [DataW.weights, Tryz.underlying33, List.map_cons, List.map_nil, DataW.weightsEach, List.mem_append]
  exact .inr (.inl hn)
set_option maxRecDepth 100000 in
/-- A script that came in. -/
theorem open_script {b0 : Nat} {v : Value} {d : DataW H} {p : List MemPlace} (hv : Value.okWide Tryz.prog W .any b0 22 v) (h : DataW.Trod enc Tryz.prog W 0 (fun _ => true) held 22 v d p) (hw : Wt 22 d) :
    ∃ (so : Option Addr) (cap : Nat) (rs : List Rq), v = .slice so rs.length cap ∧ rs.length ≤ maxLen ∧ RdS W so rs := by
  obtain ⟨a, len0, cap0, rfl⟩ := okWide_slice Tryz.underlying22 hv
  obtain ⟨fuel, hf⟩ := h
  simp only [Value.cells] at hf
  obtain ⟨so, len, cap, D, E, ev, h1, h2, h3, h4, h5, h6⟩ := open_rows Tryz.underlying22 (show Tryz.prog.cellsOf 33 = 5 by kernel_rfl) (by decide) (fun cs d => ∃ q : Rq × Option Addr × Nat, cs = rC q.1 q.2.1 q.2.2 ∧ RqIn W q.1 q.2.1 q.2.2 d) (fun fuel cs x hx => request_open hx) hf
  rw [ev]
  have hbd : ∀ i, i < len → Wt 33 (E i) := fun i hi n hn => by
    rcases h6 with h | ⟨sp, h⟩
    · omega
    · simp only at h
      rw [h] at hw
      refine hw n ?_
      simp only [DataW.weights, Tryz.underlying22]
      exact List.mem_cons_of_mem _ (List.mem_append_left _ (wt_mem (List.mem_map.2 ⟨i, List.mem_range.2 hi, rfl⟩) n hn))
  refine ⟨so, cap, (List.range len).map fun i => if hi : i < len then (Classical.choose (h5 i hi)).1 else ⟨0, [], 0, 0, 0⟩, by simp, by simp; omega, fun i r hr => ?_⟩
  have hi : i < len := by
    have := (List.getElem?_eq_some_iff.1 hr).1
    simpa using this
  simp [hi] at hr
  have hs := Classical.choose_spec (h5 i hi)
  generalize Classical.choose (h5 i hi) = q at hr hs
  obtain ⟨q, ao, qc⟩ := q
  simp only at hr hs
  subst hr
  obtain ⟨hD, g1, g2, g3, g4, g5⟩ := hs
  obtain ⟨b, off, e, hb, _, hc⟩ := h4 i hi
  have hcell : ∀ j u, j < 5 → (rC q ao qc)[j]? = some u → W.cell? ⟨b, off + i * 5 + j, none⟩ = some u := fun j u hj hu => by
    rw [hc j hj, hD]; exact hu
  exact ⟨b, off, ao, qc, e, hb, hcell 0 _ (by decide) rfl, hcell 1 _ (by decide) rfl, hcell 2 _ (by decide) rfl, hcell 3 _ (by decide) rfl, hcell 4 _ (by decide) rfl, g1, g2, g5 (hbd i hi), g3, g4⟩
end
end Go.Proofs.YtafenkepigmcaaaGreatDoor.Gr
