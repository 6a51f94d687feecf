/- ghost: graph's hold on a new graph, walked. -/
import Derived.Test.YtgjjfodogkcmmaaG7
import Derived.MapFrom
import Derived.BigRegion
namespace Go.Proofs.Ytgjjfodogkcmmaa.Gh
open Go Go.RowKit Ytgjjfodogkcmmaa.So Ytgjjfodogkcmmaa.Vl
/-- The object of a block is another one. -/
def setM (w : World) (r : Nat) (o : Obj) : World := { w with heap := w.heap.setIfInBounds r o }
theorem setM_at (w : World) (r : Nat) (o : Obj) : (setM w r o).heap[r]? = (w.heap[r]?).map (fun _ => o) := by
  show (w.heap.setIfInBounds r o)[r]? = _
  rw [Array.getElem?_setIfInBounds]
  by_cases h : r < w.heap.size
  · simp [h]
  · simp [h]
theorem setM_ne (w : World) {r k : Nat} (o : Obj) (h : k ≠ r) : (setM w r o).heap[k]? = w.heap[k]? := by
  show (w.heap.setIfInBounds r o)[k]? = _
  rw [Array.getElem?_setIfInBounds, if_neg (fun e => h e.symm)]
theorem setM_cell (w : World) {r k : Nat} (o : Obj) (i : Nat) (h : k ≠ r) : (setM w r o).cell? ⟨k, i, none⟩ = w.cell? ⟨k, i, none⟩ := by
  unfold World.cell?
  simp only [setM_ne w o h]
theorem setM_size (w : World) (r : Nat) (o : Obj) : (setM w r o).heap.size = w.heap.size := by simp [setM]
theorem setM_low {w0 w : World} {B r : Nat} (h : Below B w0 w) (hr : B ≤ r) (o : Obj) : Below B w0 (setM w r o) :=
  ⟨h.os, h.tape, h.output, by rw [setM_size]; exact h.size, fun k hk => (setM_ne w o (by omega)).trans (h.block k hk)⟩
theorem setM_same {w : World} {r : Nat} {o : Obj} (h : w.heap[r]? = some o) : setM w r o = w := by
  have : w.heap.setIfInBounds r o = w.heap := by
    apply Array.ext_getElem?
    intro k
    rw [Array.getElem?_setIfInBounds]
    by_cases e : r = k
    · subst e
      rw [if_pos rfl, h]
      simp [(Array.getElem?_eq_some_iff.1 h).1]
    · rw [if_neg e]
  unfold setM
  rw [this]
open MapKept in
theorem key_u32 (n : Int) : IsKey (.int .u32) (.int .u32 n) := by constructor
theorem del_empty {t e ty : TypeId} {p : Nat} {id : Int} {w : World} (ht : Try.prog.underlying t = some (.map 24 e)) (h : w.heap[p]? = some (.map #[] 0)) : (Builtin.delete_ #[t, 24] ty #[.map (some p), .int .u32 id]).run Try.prog w = .ok (.tuple #[]) w := by
  simp [Builtin.delete_, run_underlying ht, MapKept.run_getObj_map h, MapKept.run_checkKey Try.underlying24 (key_u32 id), MapKept.run_findKey Try.underlying24 (show Instr.findNow (.int .u32) (.int .u32 id) [] 0 = some none from rfl), MapKept.run_setObj_map _ h, Result.andThen]
  exact setM_same h
theorem entry_empty {t e : TypeId} {p : Nat} {id : Int} {z : Value} {w : World} (ht : Try.prog.underlying t = some (.map 24 e)) (hz : (zeroValue e).run Try.prog w = .ok z w) (h : w.heap[p]? = some (.map #[] 0)) : (Instr.mapEntry t (.map (some p)) (.int .u32 id)).run Try.prog w = .ok (.tuple #[z, .int .i64 0]) (setM w p (.map #[{ key := .int .u32 id, val := z, born := 0 }] 1)) := by
  simp [Instr.mapEntry, run_underlying ht, MapKept.run_getObj_map h, MapKept.run_checkKey Try.underlying24 (key_u32 id), MapKept.run_findKey Try.underlying24 (show Instr.findNow (.int .u32) (.int .u32 id) [] 0 = some none from rfl), hz, MapKept.run_setObj_map _ h, Result.andThen]
  exact ⟨rfl, rfl⟩
theorem store_one {t : TypeId} {p : Nat} {k z x : Value} {w : World} (h : w.heap[p]? = some (.map #[{ key := k, val := z, born := 0 }] 1)) : (Instr.entryStore t (.map (some p)) (.int .i64 0) x).run Try.prog w = .ok () (setM w p (.map #[{ key := k, val := x, born := 0 }] 1)) := by
  simp [Instr.entryStore, MapKept.run_getObj_map h, MapKept.run_setObj_map _ h, asInt, asIntOf, Result.andThen]
  rfl
/-- A graph with nothing, of the call's own, and the vertex's box beside it. -/
structure GrI (w0 : World) (B g p e z : Nat) (vc : Array Value) (w : World) : Prop where
  gr : w.heap[g]? = some (.cells #[.map (some p), .map (some e)] 112 (0, 0))
  mp : w.heap[p]? = some (.map #[] 0)
  me : w.heap[e]? = some (.map #[] 0)
  bx : w.heap[z]? = some (.cells vc 28 (0, 0))
  low : Below B w0 w
  bg : B ≤ g
  bp : B ≤ p
  be : B ≤ e
  ne : p ≠ e
theorem GrI.cells {w0 w : World} {B g p e z : Nat} {x0 x1 x2 x3 : Value} (h : GrI w0 B g p e z #[x0, x1, x2, x3] w) : w.cell? ⟨g, 0, none⟩ = some (.map (some p)) ∧ w.cell? ⟨g, 1, none⟩ = some (.map (some e)) ∧ w.cell? ⟨z, 0, none⟩ = some x0 ∧ w.cell? ⟨z, 1, none⟩ = some x1 ∧ w.cell? ⟨z, 2, none⟩ = some x2 ∧ w.cell? ⟨z, 3, none⟩ = some x3 := by
  have h1 := h.gr
  have h2 := h.bx
  simp [World.cell?, h1, h2]
theorem GrI.on {w0 w w' : World} {B g p e z : Nat} {vc : Array Value} (h : GrI w0 B g p e z vc w) (hb : Below w.heap.size w w') : GrI w0 B g p e z vc w' := by
  have hc : ∀ k o, w.heap[k]? = some o → w'.heap[k]? = some o := fun k o hk => (hb.block k (Array.getElem?_eq_some_iff.1 hk).1).trans hk
  exact ⟨hc _ _ h.gr, hc _ _ h.mp, hc _ _ h.me, hc _ _ h.bx, ⟨hb.os.trans h.low.os, hb.tape.trans h.low.tape, hb.output.trans h.low.output, Nat.le_trans h.low.size hb.size, fun k hk => by
    by_cases hk2 : k < w.heap.size
    · exact (hb.block k hk2).trans (h.low.block k hk)
    · have := (Array.getElem?_eq_some_iff.1 h.gr).1
      have := h.bg
      omega⟩, h.bg, h.bp, h.be, h.ne⟩
theorem GrI.turn {w0 w w' : World} {B g p e z m : Nat} {vc : Array Value} (h : GrI w0 B g p e z vc w) (ht : Turned (fun k => k = m) w w') (hm : m ≠ g ∧ m ≠ p ∧ m ≠ e ∧ m ≠ z) (hB : B ≤ m) (hs : B ≤ w.heap.size) : GrI w0 B g p e z vc w' := by
  have hc : ∀ k o, k ≠ m → w.heap[k]? = some o → w'.heap[k]? = some o := fun k o hk h2 => (ht.block k (Array.getElem?_eq_some_iff.1 h2).1 hk).trans h2
  exact ⟨hc _ _ (fun e => hm.1 e.symm) h.gr, hc _ _ (fun e => hm.2.1 e.symm) h.mp, hc _ _ (fun e => hm.2.2.1 e.symm) h.me, hc _ _ (fun e => hm.2.2.2 e.symm) h.bx, h.low.trans (ht.below hs (fun k e => by have : k = m := e; omega)), h.bg, h.bp, h.be, h.ne⟩
theorem GrI.lt {w0 w : World} {B g p e z : Nat} {vc : Array Value} (h : GrI w0 B g p e z vc w) : g < w.heap.size ∧ p < w.heap.size ∧ e < w.heap.size ∧ z < w.heap.size ∧ B ≤ w.heap.size :=
  ⟨(Array.getElem?_eq_some_iff.1 h.gr).1, (Array.getElem?_eq_some_iff.1 h.mp).1, (Array.getElem?_eq_some_iff.1 h.me).1, (Array.getElem?_eq_some_iff.1 h.bx).1, by have := (Array.getElem?_eq_some_iff.1 h.gr).1; have := h.bg; omega⟩
/-- A map of the call's own, whatever it holds. -/
def MapA (K : TypeId) (w : World) (b n : Nat) : Prop := ∃ D, w.ownsMap Try.prog K tok b n D
theorem MapA.on {K : TypeId} {w w' : World} {b n : Nat} (h : MapA K w b n) (hb : Below w.heap.size w w') : MapA K w' b n := by
  obtain ⟨D, ⟨es, clock, h1, h2⟩⟩ := h
  exact ⟨D, es, clock, (hb.block b (Array.getElem?_eq_some_iff.1 h1).1).trans h1, h2⟩
theorem MapA.made (K : TypeId) (w : World) : MapA K (w.alloc (.map #[] 0)) w.heap.size 0 := ⟨.map [], World.ownsMap_made _ _ _ _⟩
theorem MapA.lt {K : TypeId} {w : World} {b n : Nat} (h : MapA K w b n) : b < w.heap.size := by
  obtain ⟨D, h⟩ := h
  exact h.lt
theorem law5 : Maps.Keyed Try.prog 5 := Maps.int_keyed Try.underlying5
theorem key5 {i : Int} (h : (Lit.int .u8 i).wf = true) : keyOf Try.prog 5 (.int .u8 i) = some (.int .u8 i) := Maps.keyOf_int_mk Try.underlying5 h
set_option maxRecDepth 100000 in
theorem MapA.up5 {w : World} {b n : Nat} (h : MapA 5 w b n) (hn : n < maxLen) {i : Int} (hi : (Lit.int .u8 i).wf = true) (x : Value) : ∃ w', (Instr.mapUpdate 133 (.map (some b)) (.int .u8 i) x).run Try.prog w = .ok () w' ∧ MapA 5 w' b (n + 1) ∧ Turned (fun k => k = b) w w' := by
  obtain ⟨D, h⟩ := h
  obtain ⟨w', h1, h2, h3⟩ := h.update law5 Try.underlying133 hn (key5 hi) (d := .held x) (ps := []) rfl
  exact ⟨w', h1, ⟨_, h2⟩, .of_grown h3 (fun k e => by injection e with e; exact e.symm)⟩
set_option maxRecDepth 100000 in
theorem MapA.up24 {w : World} {b n : Nat} (h : MapA 24 w b n) (hn : n < maxLen) {i : Int} (hi : In32 i) (x : Value) : ∃ w', (Instr.mapUpdate 135 (.map (some b)) (.int .u32 i) x).run Try.prog w = .ok () w' ∧ MapA 24 w' b (n + 1) ∧ Turned (fun k => k = b) w w' := by
  obtain ⟨D, h⟩ := h
  obtain ⟨w', h1, h2, h3⟩ := h.update law24 Try.underlying135 hn (key24 hi) (d := .held x) (ps := []) rfl
  exact ⟨w', h1, ⟨_, h2⟩, .of_grown h3 (fun k e => by injection e with e; exact e.symm)⟩
theorem four_on {w w' : World} {x : Nat} {v0 v1 v2 v3 : Value} (h0 : w.cell? ⟨x, 0, none⟩ = some v0) (h1 : w.cell? ⟨x, 1, none⟩ = some v1) (h2 : w.cell? ⟨x, 2, none⟩ = some v2) (h3 : w.cell? ⟨x, 3, none⟩ = some v3) (hb : ∀ k, k = x → w'.heap[k]? = w.heap[k]?) :
    w'.cell? ⟨x, 0, none⟩ = some v0 ∧ w'.cell? ⟨x, 1, none⟩ = some v1 ∧ w'.cell? ⟨x, 2, none⟩ = some v2 ∧ w'.cell? ⟨x, 3, none⟩ = some v3 := by
  have hx := hb x rfl
  unfold World.cell? at *
  simp only [hx]
  exact ⟨h0, h1, h2, h3⟩
theorem setM_over (w : World) {p e : Nat} (x y x' : Obj) (h : p ≠ e) : setM (setM (setM w p x) e y) p x' = setM (setM w p x') e y := by
  unfold setM
  congr 1
  apply Array.ext_getElem?
  intro k
  simp only [Array.getElem?_setIfInBounds, Array.size_setIfInBounds]
  by_cases h1 : p = k
  · subst h1
    simp [h.symm]
  · by_cases h2 : e = k
    · subst h2
      simp [h1]
    · simp [h1, h2]
theorem setM_two (w : World) {e : Nat} (y y' : Obj) : setM (setM w e y) e y' = setM w e y' := by
  unfold setM
  congr 1
  apply Array.ext_getElem?
  intro k
  simp only [Array.getElem?_setIfInBounds, Array.size_setIfInBounds]
  by_cases h1 : e = k
  · subst h1
    simp
  · simp [h1]
/-- What a new graph's two maps hold on the way. -/
def oE (id : Int) (m : Nat) (a : Nat) : Obj := if a = 0 then .map #[] 0 else if a = 1 then .map #[{ key := .int .u32 id, val := .map none, born := 0 }] 1 else .map #[{ key := .int .u32 id, val := .map (some m), born := 0 }] 1
def wE (W : World) (p e : Nat) (id : Int) (m m2 a b : Nat) : World := setM (setM W p (oE id m a)) e (oE id m2 b)
theorem zero133 (w : World) : (zeroValue 133).run Try.prog w = .ok (.map none) w := by kernel_rfl
theorem zero135 (w : World) : (zeroValue 135).run Try.prog w = .ok (.map none) w := by kernel_rfl
theorem gr_ent {w0 W : World} {B g p e z : Nat} {x0 x1 x2 x3 : Value} {id : Int} {m m2 : Nat} (h : GrI w0 B g p e z #[x0, x1, x2, x3] W) : ∃ G : Nat → Nat → World, W = G 0 0 ∧
    (∀ b, (Instr.mapEntry 109 (.map (some p)) (.int .u32 id)).run Try.prog (G 0 b) = .ok (.tuple #[.map none, .int .i64 0]) (G 1 b)) ∧
    (∀ b, (Instr.entryStore 109 (.map (some p)) (.int .i64 0) (.map (some m))).run Try.prog (G 1 b) = .ok () (G 2 b)) ∧
    (∀ a, (Instr.mapEntry 110 (.map (some e)) (.int .u32 id)).run Try.prog (G a 0) = .ok (.tuple #[.map none, .int .i64 0]) (G a 1)) ∧
    (∀ a, (Instr.entryStore 110 (.map (some e)) (.int .i64 0) (.map (some m2))).run Try.prog (G a 1) = .ok () (G a 2)) ∧
    (∀ a b, (G a b).cell? ⟨g, 0, none⟩ = some (.map (some p))) ∧ (∀ a b, (G a b).cell? ⟨g, 1, none⟩ = some (.map (some e))) ∧ (∀ a b, (G a b).cell? ⟨z, 0, none⟩ = some x0) ∧ (∀ a b, Below B w0 (G a b)) := by
  have hgp : g ≠ p := fun e => by have h1 := h.gr; rw [e, h.mp] at h1; simp at h1
  have hge : g ≠ e := fun e => by have h1 := h.gr; rw [e, h.me] at h1; simp at h1
  have hzp : z ≠ p := fun e => by have h1 := h.bx; rw [e, h.mp] at h1; simp at h1
  have hze : z ≠ e := fun e => by have h1 := h.bx; rw [e, h.me] at h1; simp at h1
  have hpe := h.ne
  have hP : ∀ a b, (wE W p e id m m2 a b).heap[p]? = some (oE id m a) := fun a b => by
    unfold wE
    rw [setM_ne _ _ hpe, setM_at, h.mp]
    rfl
  have hE : ∀ a b, (wE W p e id m m2 a b).heap[e]? = some (oE id m2 b) := fun a b => by
    unfold wE
    rw [setM_at, setM_ne _ _ hpe.symm, h.me]
    rfl
  obtain ⟨q0, q1, q2, _⟩ := h.cells
  refine ⟨wE W p e id m m2, ?_, fun b => ?_, fun b => ?_, fun a => ?_, fun a => ?_, fun a b => ?_, fun a b => ?_, fun a b => ?_, fun a b => ?_⟩
  · have h1 : setM W p (oE id m 0) = W := setM_same h.mp
    have h2 : setM W e (oE id m2 0) = W := setM_same h.me
    unfold wE
    rw [h1, h2]
  · rw [entry_empty Try.underlying109 (zero133 _) (hP 0 b)]
    congr 1
    exact setM_over W _ _ (oE id m 1) hpe
  · rw [store_one (hP 1 b)]
    congr 1
    exact setM_over W _ _ (oE id m 2) hpe
  · rw [entry_empty Try.underlying110 (zero135 _) (hE a 0)]
    congr 1
    exact setM_two _ _ (oE id m2 1)
  · rw [store_one (hE a 1)]
    congr 1
    exact setM_two _ _ (oE id m2 2)
  · unfold wE
    rw [setM_cell _ _ _ hge, setM_cell _ _ _ hgp, q0]
  · unfold wE
    rw [setM_cell _ _ _ hge, setM_cell _ _ _ hgp, q1]
  · unfold wE
    rw [setM_cell _ _ _ hze, setM_cell _ _ _ hzp, q2]
  · exact setM_low (setM_low h.low h.bp _) h.be _
set_option maxRecDepth 100000 in
set_option maxHeartbeats 4000000 in
theorem ghold_any (w0 : World) (B g p e : Nat) (v : Vv) (w : World) (hg : GrI w0 B g p e w.heap.size #[.int .u32 v.id, .bool v.th, .slice v.po v.P.length v.pc, .slice v.ho v.L.length v.hc] (w.alloc (.cells #[.int .u32 v.id, .bool v.th, .slice v.po v.P.length v.pc, .slice v.ho v.L.length v.hc] 28)))
    (hv : v.ok w) (hp : ∀ t ∈ v.P, (Lit.int .u8 t.1).wf = true) (hl : ∀ t ∈ v.L, In32 t.1) (np : v.P.length ≤ 1000) (nl : v.L.length ≤ 1000) (st : ∀ t ∈ v.P ++ v.L, t.2.2.2.size ≤ 281474976710656) :
    Calls Try.prog 52 #[.pointer (some ⟨g, 0, none⟩), v.val] w fun e w' => e = .returned (.tuple #[]) ∧ Below B w0 w' := by
  obtain ⟨id, th, po, pc, P, ho, hc, L⟩ := v
  unfold Vv.val
  simp only at hg hp hl np nl st ⊢
  have HV := Lib.hid hv
  have HW := Lib.hid ((Below.refl _ w).alloc (Nat.le_refl _) (.cells #[.int .u32 id, .bool th, .slice po P.length pc, .slice ho L.length hc] 28))
  have HK := Lib.hid (And.intro hp (And.intro hl st))
  obtain ⟨c0, c1, z0, z1, z2, z3⟩ := hg.cells
  have d1 := del_empty (ty := 0) (id := id) Try.underlying109 hg.mp
  have d2 := del_empty (ty := 0) (id := id) Try.underlying110 hg.me
  have HG := Lib.hid hg
  obtain ⟨W, hW⟩ : ∃ W, w.alloc (.cells #[.int .u32 id, .bool th, .slice po P.length pc, .slice ho L.length hc] 28) = W := ⟨_, rfl⟩
  rw [hW] at HW HG d1 d2 c0 c1 z0 z1 z2 z3
  have d1' : (Builtin.delete_ #[109, 24] 0 #[.map (some p), .int .u32 id]).run Try.prog W.drew = .ok (.tuple #[]) W.drew := del_empty Try.underlying109 HG.out.mp
  have d2' : (Builtin.delete_ #[110, 24] 0 #[.map (some e), .int .u32 id]).run Try.prog W.drew.drew = .ok (.tuple #[]) W.drew.drew := del_empty Try.underlying110 HG.out.me
  clear hg hv hp hl d1 d2
  go_enter Try.func52, Try.ntmps52
  go_upto_region 1 with fail
  go_region
  go_upto_region 2 with fail
  go_region
  have HG2 := Lib.hid (HG.out.on (w' := W.drew.drew) ((Below.refl _ W).drew.drew))
  have HW2 := Lib.hid (show Below w.heap.size w W.drew.drew from HW.out.drew.drew)
  clear d1' d2' c0 c1 z0 z1 z2 z3 hW HG HW
  generalize W.drew.drew = W2 at HG2 HW2 ⊢
  obtain ⟨c0, c1, z0, z1, z2, z3⟩ := HG2.out.cells
  cases th
  · go_wp2_with fail
    exact bodyPost_ret (v := .tuple #[]) (results_none rfl _ _ _) rfl ⟨rfl, HG2.out.low⟩
  · obtain ⟨z, hz⟩ : ∃ z, w.heap.size = z := ⟨_, rfl⟩
    have HSZ := Lib.hid hz
    rw [hz] at HG2 z0 z1 z2 z3
    have hmm := @run_makeMap Try.prog
    have HM0 := Lib.hid (MapA.made 5 W2)
    have HG3 := Lib.hid (HG2.out.on ((Below.refl _ W2).alloc (Nat.le_refl _) (.map #[] 0)))
    have HW3 := Lib.hid (HW2.out.alloc HW2.out.size (.map #[] 0))
    have HNE := Lib.hid (show (W2.heap.size ≠ g ∧ W2.heap.size ≠ p ∧ W2.heap.size ≠ e ∧ W2.heap.size ≠ z) ∧ B ≤ W2.heap.size ∧ w.heap.size ≤ W2.heap.size from by have := HG2.out.lt; have := HW2.out.size; omega)
    obtain ⟨n, hn⟩ : ∃ n, P.length = n := ⟨_, rfl⟩
    obtain ⟨k, hk⟩ : ∃ k, L.length = k := ⟨_, rfl⟩
    have HN := Lib.hid (And.intro hn hk)
    rw [hn, hk] at HG2 HG3
    rw [hn] at z2
    rw [hk] at z3
    rw [hz, hn, hk]
    rw [hn] at np
    rw [hk] at nl
    clear hn hk hz c0 c1 z0
    obtain ⟨q0, q1, q2, q3, q4, q5⟩ := HG3.out.cells
    clear q0 q1 q2 q3
    go_wp2_with fail
    clear z1 z2 z3 q4 q5 HG2 HW2
    obtain ⟨m, hm⟩ : ∃ m, W2.heap.size = m := ⟨_, rfl⟩
    obtain ⟨W3, hW3⟩ : ∃ W, W2.alloc (.map #[] 0) = W := ⟨_, rfl⟩
    rw [hm] at HM0 HNE ⊢
    rw [hW3] at HM0 HG3 HW3 ⊢
    clear hm hW3
    go_loopw [29] (fun u wr => ∃ j : Nat, j ≤ n ∧ u = .int .i64 j ∧ Hid (GrI w0 B g p e z #[.int .u32 id, .bool true, .slice po n pc, .slice ho k hc] wr ∧ MapA 5 wr m j ∧ Below w.heap.size w wr)) (fun u _ => n - (intOf u).toNat)
    case atStart => exact ⟨0, by omega, rfl, Lib.hid ⟨HG3.out, HM0.out, HW3.out⟩⟩
    case round =>
      obtain ⟨j, hj, rfl, HR⟩ := hrel
      clear HM0 HG3 HW3
      by_cases hlt : j < n
      · obtain ⟨t, ht⟩ : ∃ t, P[j]? = some t := ⟨_, List.getElem?_eq_getElem (by have := HN.out.1; omega)⟩
        obtain ⟨g', og, rfl, _, y0, y1, y2, y3⟩ := (HV.out.below HR.out.2.2 (Nat.le_refl _)).p j t ht
        have HT := Lib.hid (And.intro (HK.out.1 t (List.mem_of_getElem? ht)) (HK.out.2.2 t (List.mem_append_left _ (List.mem_of_getElem? ht))))
        have j1 : (j : Int) < (n : Int) := by omega
        have b1 := (Below.refl wr.heap.size wr).alloc (Nat.le_refl _) (.cells #[.int .u8 t.1, .int .u8 t.2.1, .int .i64 t.2.2.1, .string t.2.2.2] 86)
        have HA := Lib.hid (And.intro (HR.out.1.on b1) (And.intro (HR.out.2.1.on b1) (And.intro (HR.out.2.2.trans (b1.mono HR.out.2.2.size)) HR.out.2.1.lt)))
        have hx := heap_alloc_new wr (.cells #[.int .u8 t.1, .int .u8 t.2.1, .int .i64 t.2.2.1, .string t.2.2.2] 86)
        clear ht b1
        go_wp2_with fail
        obtain ⟨x, hxx⟩ : ∃ x, wr.heap.size = x := ⟨_, rfl⟩
        obtain ⟨W4, hW4⟩ : ∃ W, wr.alloc (.cells #[.int .u8 t.1, .int .u8 t.2.1, .int .i64 t.2.2.1, .string t.2.2.2] 86) = W := ⟨_, rfl⟩
        rw [hW4] at hx HA
        rw [hxx] at hx HA
        rw [hW4, hxx]
        clear hW4 hxx
        have hxl := (Array.getElem?_eq_some_iff.1 hx).1
        obtain ⟨x0, x1, x2, x3⟩ : W4.cell? ⟨x, 0, none⟩ = some (.int .u8 t.1) ∧ W4.cell? ⟨x, 1, none⟩ = some (.int .u8 t.2.1) ∧ W4.cell? ⟨x, 2, none⟩ = some (.int .i64 t.2.2.1) ∧ W4.cell? ⟨x, 3, none⟩ = some (.string t.2.2.2) := by simp [World.cell?, hx]
        go_region_held3 (fun w' => w'.cell? ⟨x, 0, none⟩ = some (.int .u8 t.1) ∧ w'.cell? ⟨x, 1, none⟩ = some (.int .u8 t.2.1) ∧ w'.cell? ⟨x, 2, none⟩ = some (.int .i64 t.2.2.1) ∧ w'.cell? ⟨x, 3, none⟩ = some (.string t.2.2.2))
          (first | exact ⟨x0, x1, x2, x3⟩ | exact U1 | exact U2)
          (first | (go_at_call 74; refine (own_any t.2.1 t.2.2.1 t.2.2.2 _ HT.out.2).mono ?_; rintro e' w1 ⟨rfl, hb1⟩; have hb1' := (Below.refl _ W4).drew.trans hb1; have U1 := four_on x0 x1 x2 x3 (fun k hk => hb1'.block k (hk ▸ hxl)); obtain ⟨w2, hup, hma, hta⟩ := (HA.out.2.1.on hb1').up5 (by unfold maxLen; omega) HT.out.1 (val t.2.1 t.2.2.1 t.2.2.2); have U2 := four_on U1.1 U1.2.1 U1.2.2.1 U1.2.2.2 (fun k hk => hta.block k (by rw [hk]; exact Nat.lt_of_lt_of_le hxl hb1'.size) (fun e => by have := HA.out.2.2.2; have e2 : k = m := e; omega)); have HS := Lib.hid (And.intro ((HA.out.1.on hb1').turn hta HNE.out.1 HNE.out.2.1 (Nat.le_trans (HA.out.1.lt).2.2.2.2 hb1'.size)) (And.intro hma ((HA.out.2.2.1.trans (hb1'.mono HA.out.2.2.1.size)).trans (hta.below (Nat.le_trans HA.out.2.2.1.size hb1'.size) (fun k e => by have e2 : k = m := e; have := HNE.out.2.2; omega))))); unfold val at hup ⊢; clear hb1 hb1' hma hta))
        all_goals (
          go_wp2_with fail
          go_roundw
          case rel => exact ⟨j + 1, by omega, by go_num, HS⟩
          case measure => simp [intOf]; omega)
      · obtain rfl : j = n := by omega
        clear hlt
        have HG4 := Lib.hid (HR.out.1.on ((Below.refl _ wr).alloc (Nat.le_refl _) (.map #[] 0)))
        have HW4 := Lib.hid (HR.out.2.2.alloc HR.out.2.2.size (.map #[] 0))
        have HM2 := Lib.hid (MapA.made 24 wr)
        have HNE2 := Lib.hid (show (wr.heap.size ≠ g ∧ wr.heap.size ≠ p ∧ wr.heap.size ≠ e ∧ wr.heap.size ≠ z) ∧ B ≤ wr.heap.size ∧ w.heap.size ≤ wr.heap.size from by have := HR.out.1.lt; have := HR.out.2.2.size; omega)
        obtain ⟨q0, q1, q2, q3, q4, q5⟩ := HG4.out.cells
        clear q0 q1 q2 q3 q4 HR HNE
        go_wp2_with fail
        clear q5
        obtain ⟨m2, hm2⟩ : ∃ m, wr.heap.size = m := ⟨_, rfl⟩
        obtain ⟨W5, hW5⟩ : ∃ W, wr.alloc (.map #[] 0) = W := ⟨_, rfl⟩
        rw [hm2] at HM2 HNE2 ⊢
        rw [hW5] at HM2 HG4 HW4 ⊢
        clear hm2 hW5
        go_loopw [44] (fun u wr => ∃ i : Nat, i ≤ k ∧ u = .int .i64 i ∧ Hid (GrI w0 B g p e z #[.int .u32 id, .bool true, .slice po j pc, .slice ho k hc] wr ∧ MapA 24 wr m2 i ∧ Below w.heap.size w wr)) (fun u _ => k - (intOf u).toNat)
        case atStart => exact ⟨0, by omega, rfl, Lib.hid ⟨HG4.out, HM2.out, HW4.out⟩⟩
        case round =>
          obtain ⟨i, hi, rfl, HR⟩ := hrel
          clear HM2 HG4 HW4
          by_cases hlt : i < k
          · obtain ⟨t, ht⟩ : ∃ t, L[i]? = some t := ⟨_, List.getElem?_eq_getElem (by have := HN.out.2; omega)⟩
            obtain ⟨g', og, rfl, _, y0, y1, y2, y3⟩ := (HV.out.below HR.out.2.2 (Nat.le_refl _)).h i t ht
            have HT := Lib.hid (And.intro (HK.out.2.1 t (List.mem_of_getElem? ht)) (HK.out.2.2 t (List.mem_append_right _ (List.mem_of_getElem? ht))))
            have j1 : (i : Int) < (k : Int) := by omega
            have b1 := (Below.refl wr.heap.size wr).alloc (Nat.le_refl _) (.cells #[.int .u32 t.1, .int .u8 t.2.1, .int .i64 t.2.2.1, .string t.2.2.2] 76)
            have HA := Lib.hid (And.intro (HR.out.1.on b1) (And.intro (HR.out.2.1.on b1) (And.intro (HR.out.2.2.trans (b1.mono HR.out.2.2.size)) HR.out.2.1.lt)))
            have hx := heap_alloc_new wr (.cells #[.int .u32 t.1, .int .u8 t.2.1, .int .i64 t.2.2.1, .string t.2.2.2] 76)
            clear ht b1
            go_wp2_with fail
            obtain ⟨x, hxx⟩ : ∃ x, wr.heap.size = x := ⟨_, rfl⟩
            obtain ⟨W4, hW4⟩ : ∃ W, wr.alloc (.cells #[.int .u32 t.1, .int .u8 t.2.1, .int .i64 t.2.2.1, .string t.2.2.2] 76) = W := ⟨_, rfl⟩
            rw [hW4] at hx HA
            rw [hxx] at hx HA
            rw [hW4, hxx]
            clear hW4 hxx
            have hxl := (Array.getElem?_eq_some_iff.1 hx).1
            obtain ⟨x0, x1, x2, x3⟩ : W4.cell? ⟨x, 0, none⟩ = some (.int .u32 t.1) ∧ W4.cell? ⟨x, 1, none⟩ = some (.int .u8 t.2.1) ∧ W4.cell? ⟨x, 2, none⟩ = some (.int .i64 t.2.2.1) ∧ W4.cell? ⟨x, 3, none⟩ = some (.string t.2.2.2) := by simp [World.cell?, hx]
            go_region_held3 (fun w' => w'.cell? ⟨x, 0, none⟩ = some (.int .u32 t.1) ∧ w'.cell? ⟨x, 1, none⟩ = some (.int .u8 t.2.1) ∧ w'.cell? ⟨x, 2, none⟩ = some (.int .i64 t.2.2.1) ∧ w'.cell? ⟨x, 3, none⟩ = some (.string t.2.2.2))
              (first | exact ⟨x0, x1, x2, x3⟩ | exact U1 | exact U2)
              (first | (go_at_call 74; refine (own_any t.2.1 t.2.2.1 t.2.2.2 _ HT.out.2).mono ?_; rintro e' w1 ⟨rfl, hb1⟩; have hb1' := (Below.refl _ W4).drew.trans hb1; have U1 := four_on x0 x1 x2 x3 (fun k hk => hb1'.block k (hk ▸ hxl)); obtain ⟨w2, hup, hma, hta⟩ := (HA.out.2.1.on hb1').up24 (by unfold maxLen; omega) HT.out.1 (val t.2.1 t.2.2.1 t.2.2.2); have U2 := four_on U1.1 U1.2.1 U1.2.2.1 U1.2.2.2 (fun k hk => hta.block k (by rw [hk]; exact Nat.lt_of_lt_of_le hxl hb1'.size) (fun e => by have := HA.out.2.2.2; have e2 : k = m2 := e; omega)); have HS := Lib.hid (And.intro ((HA.out.1.on hb1').turn hta HNE2.out.1 HNE2.out.2.1 (Nat.le_trans (HA.out.1.lt).2.2.2.2 hb1'.size)) (And.intro hma ((HA.out.2.2.1.trans (hb1'.mono HA.out.2.2.1.size)).trans (hta.below (Nat.le_trans HA.out.2.2.1.size hb1'.size) (fun k e => by have e2 : k = m2 := e; have := HNE2.out.2.2; omega))))); unfold val at hup ⊢; clear hb1 hb1' hma hta))
            all_goals (
              go_wp2_with fail
              go_roundw
              case rel => exact ⟨i + 1, by omega, by go_num, HS⟩
              case measure => simp [intOf]; omega)
          · obtain rfl : i = k := by omega
            clear hlt
            obtain ⟨G, hG0, e1, s1, e2, s2, g0, g1, g2, HB⟩ := gr_ent (id := id) (m := m) (m2 := m2) (HR.out.1.on (w' := wr.drew) (Below.refl _ wr).drew)
            have HL := Lib.hid HB
            clear HB HR HV HK st
            go_wp2_with fail
            clear hmm
            go_region
            go_end0
            exact ⟨rfl, HL.out _ _⟩
end Go.Proofs.Ytgjjfodogkcmmaa.Gh
