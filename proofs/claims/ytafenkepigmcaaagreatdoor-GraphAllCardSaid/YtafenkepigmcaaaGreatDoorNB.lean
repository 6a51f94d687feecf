/- graph: a vertex as it is told: what stands of it in memory; the facts of a round of Vertex. -/
import Derived.Test.YtafenkepigmcaaaGreatDoorNA
import Derived.Deep.AppendLies
import Derived.Deep.RegionLaw
import Derived.Deep.RegionHeld3
namespace Go.Proofs.YtafenkepigmcaaaGreatDoor.Gr
open Go Go.RowKit YtafenkepigmcaaaGreatDoor.So
/-- Keys with their values, as a row has them. -/
def eCells (q : IntKind) (E : EL Av) : List Value := E.flatMap fun e => [.int q e.1, .int .u8 e.2.k, .int .i64 e.2.n, .string e.2.s]
theorem eCells_app (q : IntKind) (A B : EL Av) : eCells q (A ++ B) = eCells q A ++ eCells q B := by simp [eCells]
theorem eCells_len (q : IntKind) (A : EL Av) : (eCells q A).length = A.length * 4 := by
  induction A with
  | nil => rfl
  | cons a A ih => simp only [eCells, List.flatMap_cons, List.length_append, List.length_cons, List.length_nil] at ih ⊢; omega
theorem eCells_snoc {q : IntKind} {E : EL Av} {i : Nat} {e : Int × Av} (h : E[i]? = some e) : eCells q (E.take (i + 1)) = eCells q (E.take i) ++ [.int q e.1, .int .u8 e.2.k, .int .i64 e.2.n, .string e.2.s] := by
  rw [List.take_add_one, h, eCells_app]; simp [eCells]
/-- A vertex as a value, what it has in rows of the call's own. -/
def VxV (B : Nat) (w : World) (val : Value) (v : Int) (c : Option (EL Av × EL Av)) : Prop := match c with
  | none => val = bareV v false
  | some x => ∃ pv hv, val = .agg #[.int .u32 v, .bool true, pv, hv] ∧ w.ownsRow B 56 4 pv x.1.length (eCells .u8 x.1) ∧ w.ownsRow B 58 4 hv x.2.length (eCells .u32 x.2)
theorem info56 : (Tryz.prog.info? 56).map (fun i => (i.zero, i.size, i.bytes)) = some (some (.agg #[.int .u8 0, .int .u8 0, .int .i64 0, .string ⟨#[]⟩]), 4, 40) := by kernel_rfl
theorem info58 : (Tryz.prog.info? 58).map (fun i => (i.zero, i.size, i.bytes)) = some (some (.agg #[.int .u32 0, .int .u8 0, .int .i64 0, .string ⟨#[]⟩]), 4, 40) := by kernel_rfl
theorem size51 : (Tryz.prog.info? 51).map (·.size) = some 4 := by kernel_rfl
theorem eNew (q : IntKind) (k a n : Int) (s : ByteArray) (w : World) (T : TypeId) : ∀ j u, ([.int q k, .int .u8 a, .int .i64 n, .string s] : List Value)[j]? = some u → (w.alloc (.cells #[.int q k, .int .u8 a, .int .i64 n, .string s] T)).cell? ((⟨w.heap.size, 0, none⟩ : Addr).add j) = some u := by
  intro j u h
  match j, h with
  | 0, h => simp at h; subst h; simp [Addr.add, go_sem]
  | 1, h => simp at h; subst h; simp [Addr.add, go_sem]
  | 2, h => simp at h; subst h; simp [Addr.add, go_sem]
  | 3, h => simp at h; subst h; simp [Addr.add, go_sem]
  | j + 4, h => simp at h
theorem eOne (q : IntKind) (k a n : Int) (s : ByteArray) : ∀ u ∈ ([.int q k, .int .u8 a, .int .i64 n, .string s] : List Value), u.oneCell' = true := by
  intro u hu
  simp at hu
  rcases hu with rfl | rfl | rfl | rfl <;> rfl
theorem four {w : World} {b : Nat} {c0 c1 c2 c3 : Value} {t : TypeId} (u0 u1 u2 u3 : Value) (h : w.heap[b]? = some (.cells #[c0, c1, c2, c3] t (0, 0))) :
    w.cell? ⟨b, 0, none⟩ = some c0 ∧ w.frozen? ⟨b, 0, none⟩ = false ∧
    (w.setCell ⟨b, 0, none⟩ u0).cell? ⟨b, 1, none⟩ = some c1 ∧ (w.setCell ⟨b, 0, none⟩ u0).frozen? ⟨b, 1, none⟩ = false ∧
    ((w.setCell ⟨b, 0, none⟩ u0).setCell ⟨b, 1, none⟩ u1).cell? ⟨b, 2, none⟩ = some c2 ∧ ((w.setCell ⟨b, 0, none⟩ u0).setCell ⟨b, 1, none⟩ u1).frozen? ⟨b, 2, none⟩ = false ∧
    (((w.setCell ⟨b, 0, none⟩ u0).setCell ⟨b, 1, none⟩ u1).setCell ⟨b, 2, none⟩ u2).cell? ⟨b, 3, none⟩ = some c3 ∧ (((w.setCell ⟨b, 0, none⟩ u0).setCell ⟨b, 1, none⟩ u1).setCell ⟨b, 2, none⟩ u2).frozen? ⟨b, 3, none⟩ = false ∧
    ((((w.setCell ⟨b, 0, none⟩ u0).setCell ⟨b, 1, none⟩ u1).setCell ⟨b, 2, none⟩ u2).setCell ⟨b, 3, none⟩ u3).heap[b]? = some (.cells #[u0, u1, u2, u3] t (0, 0)) := by
  have h1 := set_block (i := 0) (v := u0) h
  have h2 := set_block (i := 1) (v := u1) h1
  have h3 := set_block (i := 2) (v := u2) h2
  have h4 := set_block (i := 3) (v := u3) h3
  exact ⟨by simp [World.cell?, h], free4 h, by simp [World.cell?, h1], free4 h1, by simp [World.cell?, h2], free4 h2, by simp [World.cell?, h3], free4 h3, h4.trans rfl⟩
theorem four_turned (w : World) (b : Nat) (u0 u1 u2 u3 : Value) : Turned (fun k => k = b) w ((((w.setCell ⟨b, 0, none⟩ u0).setCell ⟨b, 1, none⟩ u1).setCell ⟨b, 2, none⟩ u2).setCell ⟨b, 3, none⟩ u3) :=
  (((turned_set w b 0 u0).then (turned_set _ b 1 u1)).then (turned_set _ b 2 u2)).then (turned_set _ b 3 u3)
/-- A row of another element type is another block. -/
theorem far_row {W : World} {p : Nat} {A : Array Value} {t e : TypeId} {k0 : Nat × Nat} (h : W.heap[p]? = some (.cells A t k0)) (hte : t ≠ e) {base size k : Nat} {v : Value} {xs : List Value} (hr : W.ownsRow base e size v k xs) : some p ≠ v.ownBlock := by
  rcases hr.2 with ⟨rfl, _⟩ | ⟨g, cap, cur, rfl, _, hgb, _⟩
  · simp [Value.ownBlock]
  · intro e'
    obtain rfl : p = g := by simpa [Value.ownBlock] using e'
    rw [h] at hgb; cases hgb; exact hte rfl
theorem row_lt {w : World} {B e size n : Nat} {v : Value} {xs : List Value} (h : w.ownsRow B e size v n xs) {g : Nat} (hg : v.ownBlock = some g) : B ≤ g ∧ g < w.heap.size := by
  rcases h.2 with ⟨rfl, _⟩ | ⟨g', cap, cur, rfl, h1, h2, _⟩
  · simp [Value.ownBlock] at hg
  · simp [Value.ownBlock] at hg
    subst hg
    exact ⟨h1, (Array.getElem?_eq_some_iff.1 h2).1⟩
theorem row_slice {w : World} {B e size n : Nat} {v : Value} {xs : List Value} (h : w.ownsRow B e size v n xs) : ∃ ao cap, v = .slice ao n cap := by
  rcases h.2 with ⟨rfl, h0⟩ | ⟨g, cap, cur, rfl, _⟩
  · exact ⟨none, 0, by rw [h0]⟩
  · exact ⟨_, cap, rfl⟩
theorem row_base {w : World} {B C e size n : Nat} {v : Value} {xs : List Value} (h : w.ownsRow C e size v n xs) (hB : B ≤ C) : w.ownsRow B e size v n xs := by
  refine ⟨h.1, ?_⟩
  rcases h.2 with h0 | ⟨g, cap, cur, e1, e2, e3⟩
  · exact .inl h0
  · exact .inr ⟨g, cap, cur, e1, Nat.le_trans hB e2, e3⟩
theorem row_turned {w w' : World} {B e size n : Nat} {v : Value} {xs : List Value} {K : Nat → Prop} (h : w.ownsRow B e size v n xs) (ht : Turned K w w') (hK : ∀ g, v.ownBlock = some g → ¬ K g) : w'.ownsRow B e size v n xs :=
  own_on h (fun g hg => ht.block g (row_lt h hg).2 (hK g hg))
/-- Between two rounds: so many of the properties (of the halves) are there. -/
structure V1 (w2 : World) (z : Nat) (v : Int) (et : TypeId) (q : IntKind) (E : EL Av) (i : Nat) (pv : Value) (cur : Value → Array Value) (wr : World) : Prop where
  box : wr.heap[z]? = some (.cells (cur pv) 51 (0, 0))
  row : wr.ownsRow w2.heap.size et 4 pv i (eCells q (E.take i))
  tur : Turned (fun k => k = z) w2 wr
def RdP (g mp bpv : Nat) (v k k0 m0 : Int) (s0 : ByteArray) (W : World) : Prop :=
  W.cell? ⟨g, 0, none⟩ = some (.map (some mp)) ∧ (Instr.lookup 106 (.map (some mp)) (.int .u32 v) false).run Tryz.prog W = .ok (.map (some bpv)) W ∧ (Instr.lookup 125 (.map (some bpv)) (.int .u8 k) false).run Tryz.prog W = .ok (.agg #[.int .u8 k0, .int .i64 m0, .string s0]) W
theorem rd_p {w : World} {n : Nat} {F : Nat → Prop} {g mp me : Nat} {bp be : Int → Nat} {G : GV} {v : Int} {x : EL Av × EL Av} {k k0 m0 : Int} {s0 : ByteArray} (h : GrAt w n F g mp me bp be G) (hx : getE G v = some x) (hv : In32 v) (hk : In8 k) (he : getE x.1 k = some ⟨k0, m0, s0⟩) : RdP g mp (bp v) v k k0 m0 s0 w := by
  have hl := (h.mine _ (mem_of_get hx)).1.look hk
  rw [he] at hl
  exact ⟨h.cells.1, h.lookP hx hv, hl⟩
theorem V1.step {w2 wr w3 w4 : World} {z : Nat} {v : Int} {et : TypeId} {q : IntKind} {E : EL Av} {i : Nat} {e : Int × Av} {pv pv' : Value} {cur : Value → Array Value} {o : Obj} (j : Nat)
    (h : V1 w2 z v et q E i pv cur wr) (he : E[i]? = some e) (h3 : Below wr.heap.size wr w3) (hg : (w3.alloc o).grownBy w4 pv.ownBlock) (ho : w4.ownsRow w2.heap.size et 4 pv' (i + 1) (eCells q (E.take i) ++ [.int q e.1, .int .u8 e.2.k, .int .i64 e.2.n, .string e.2.s])) (hb : w4.heap[z]? = some (.cells (cur pv) 51 (0, 0))) (hte : 51 ≠ et) (hc : (cur pv).setIfInBounds j pv' = cur pv') : V1 w2 z v et q E (i + 1) pv' cur (w4.setCell ⟨z, j, none⟩ pv') := by
  refine ⟨?_, ?_, ?_⟩
  · rw [set_block hb, hc]
  · rw [eCells_snoc he]
    exact row_turned ho (turned_set w4 z j pv') (fun g hg' e' => far_row hb hte ho (by rw [hg', e']))
  · have t1 : Turned (fun k => k = z) wr (w3.alloc o) := (turned_low h3).then (turned_low ((Below.refl _ w3).alloc (Nat.le_refl _) o))
    have t2 : Turned (fun k => w2.heap.size ≤ k) (w3.alloc o) w4 := .of_grown hg (fun k hk => (row_lt h.row hk).1)
    exact (((h.tur.then t1).trans t2 (fun k hk => .inr hk))).then (turned_set w4 z j pv')
def RdH (g me bev : Nat) (v k k0 m0 : Int) (s0 : ByteArray) (W : World) : Prop :=
  W.cell? ⟨g, 1, none⟩ = some (.map (some me)) ∧ (Instr.lookup 107 (.map (some me)) (.int .u32 v) false).run Tryz.prog W = .ok (.map (some bev)) W ∧ (Instr.lookup 131 (.map (some bev)) (.int .u32 k) false).run Tryz.prog W = .ok (.agg #[.int .u8 k0, .int .i64 m0, .string s0]) W
theorem rd_h {w : World} {n : Nat} {F : Nat → Prop} {g mp me : Nat} {bp be : Int → Nat} {G : GV} {v : Int} {x : EL Av × EL Av} {k k0 m0 : Int} {s0 : ByteArray} (h : GrAt w n F g mp me bp be G) (hx : getE G v = some x) (hv : In32 v) (hk : In32 k) (he : getE x.2 k = some ⟨k0, m0, s0⟩) : RdH g me (be v) v k k0 m0 s0 w := by
  have hl := (h.mine _ (mem_of_get hx)).2.look hk
  rw [he] at hl
  exact ⟨h.cells.2, h.lookH hx hv, hl⟩
end Go.Proofs.YtafenkepigmcaaaGreatDoor.Gr
/- graph: Vertex, walked. -/
namespace Go.Proofs.YtafenkepigmcaaaGreatDoor.Gr
open Go Go.RowKit YtafenkepigmcaaaGreatDoor.So
set_option maxRecDepth 100000 in
theorem vertex_none (g n : Nat) (F : Nat → Prop) (G : GV) (v : Int) (w : World) (h : Gp w n F g G) (hx : getE G v = none) (hv : In32 v) :
    Calls Tryz.prog 24 #[.pointer (some ⟨g, 0, none⟩), .int .u32 v] w fun e w' => e = .returned (bareV v false) ∧ Below w.heap.size w w' := by
  have b0 := (Below.refl w.heap.size w).alloc (Nat.le_refl _) (.cells #[.int .u32 0, .bool false, .slice none 0 0, .slice none 0 0] 51)
  have HT := Lib.hid (there_any g n F G v _ (h.below b0) hv)
  rw [hx] at HT
  unfold bareV
  have b1 := (Below.refl w.heap.size w).alloc (Nat.le_refl _) (.cells #[.int .u32 v, .bool false, .slice none 0 0, .slice none 0 0] 51)
  clear h b0 hx
  go_enter Tryz.func24, Tryz.ntmps24
  go_wp2_with fail
  refine HT.out.mono ?_
  rintro e w1 ⟨rfl, rfl⟩
  go_wp2_with fail
  refine bodyPost_ret (v := .agg #[.int .u32 v, .bool false, .slice none 0 0, .slice none 0 0]) (results_cell_row rfl _ _ w.heap.size 51 _ (0, 0) _ rfl (heap_alloc_new _ _) Tryz.underlying51 rfl size51) rfl ⟨rfl, b1⟩
theorem take_lt {E : EL Av} {i : Nat} (h : i < E.length) : ∃ k a n s, E[i]? = some (k, ⟨a, n, s⟩) := ⟨_, _, _, _, List.getElem?_eq_getElem h⟩
theorem cells_row1 {w : World} {B et n : Nat} {ao : Option Addr} {cap : Nat} {xs : List Value} (h : w.ownsRow B et 1 (.slice ao n cap) n xs) {i : Nat} {u : Value} (hi : xs[i]? = some u) : ∃ gk, ao = some ⟨gk, 0, none⟩ ∧ gk < w.heap.size ∧ B ≤ gk ∧ w.cell? ⟨gk, i, none⟩ = some u := by
  rcases h.2 with ⟨e, h0⟩ | ⟨g', cap', cur, e, h1, h2, h3, h4, h5, h6⟩
  · have hl := h.1
    rw [h0] at hl
    have : xs = [] := List.eq_nil_of_length_eq_zero (by simpa using hl)
    rw [this] at hi
    simp at hi
  · simp only [Value.slice.injEq] at e
    obtain ⟨rfl, _, _⟩ := e
    refine ⟨g', rfl, (Array.getElem?_eq_some_iff.1 h2).1, h1, ?_⟩
    rw [← h6, List.getElem?_take] at hi
    split at hi
    · simp only [World.cell?, h2]
      simpa using hi
    · cases hi
theorem keyP_at {P : EL Av} {i : Nat} {e : Int × Av} (h : P[i]? = some e) : (KD.u32s (keysE (vals P)))[i]? = some (.int .u8 e.1) := by
  simp [KD.u32s, keysE, vals, mapE, h]
theorem keyH_at {P : EL Av} {i : Nat} {e : Int × Av} (h : P[i]? = some e) : (KA.u32s (keysE (vals P)))[i]? = some (.int .u32 e.1) := by
  simp [KA.u32s, keysE, vals, mapE, h]
theorem mem_at {E : EL Av} {i : Nat} {e : Int × Av} (h : E[i]? = some e) : e ∈ E := List.mem_of_getElem? h
theorem wf_vals {kt : TypeId} {q : IntKind} {zd : Value} {w : World} {b n : Nat} {E : EL Av} (h : MapE kt q zd w b n (vals E)) {e : Int × Av} (he : e ∈ E) : InQ q e.1 :=
  h.wf (e.1, e.2.val) (List.mem_map.2 ⟨e, he, rfl⟩)
theorem rise_vals {kt : TypeId} {q : IntKind} {zd : Value} {w : World} {b n : Nat} {E : EL Av} (h : MapE kt q zd w b n (vals E)) : RiseE E := rise_of_map h.rise
set_option maxRecDepth 100000 in
set_option maxHeartbeats 4000000 in
theorem vertex_some (g n : Nat) (F : Nat → Prop) (G : GV) (v : Int) (P L : EL Av) (w : World) (h : Gp w n F g G) (hn : n ≤ 1000000000000) (hx : getE G v = some (P, L)) (hP : P.length ≤ 12) (hv : In32 v) :
    Calls Tryz.prog 24 #[.pointer (some ⟨g, 0, none⟩), .int .u32 v] w fun e w' => (∃ val, e = .returned val ∧ VxV w.heap.size w' val v (some (P, L))) ∧ Below w.heap.size w w' := by
  have b0 := (Below.refl w.heap.size w).alloc (Nat.le_refl _) (.cells #[.int .u32 0, .bool false, .slice none 0 0, .slice none 0 0] 51)
  have HT := Lib.hid (there_any g n F G v _ (h.below b0) hv)
  rw [hx] at HT
  have b1 := b0.alloc b0.size (.cells #[.int .u32 v, .bool true, .slice none 0 0, .slice none 0 0] 51)
  obtain ⟨mp, me, bp, be, h⟩ := h
  have hG := h.below b1
  have c0 := hG.cells.1
  have l0 := hG.lookP hx hv
  have HX := Lib.hid (And.intro h (And.intro b1 (And.intro hx (And.intro hv (And.intro hn hP)))))
  clear h b0 b1 hG hx hv hn hP
  go_enter Tryz.func24, Tryz.ntmps24
  go_wp2_with fail
  refine HT.out.mono ?_
  rintro e w1 ⟨rfl, rfl⟩
  go_wp2_with fail
  obtain ⟨z, hz⟩ : ∃ z, w.heap.size = z := ⟨_, rfl⟩
  have k4 := (heap_alloc_old _ (.cells #[.int .u32 v, .bool true, .slice none 0 0, .slice none 0 0] 51) (by simp)).trans (heap_alloc_new w (.cells #[.int .u32 0, .bool false, .slice none 0 0, .slice none 0 0] 51))
  have k5 := heap_alloc2_new w (.cells #[.int .u32 0, .bool false, .slice none 0 0, .slice none 0 0] 51) (.cells #[.int .u32 v, .bool true, .slice none 0 0, .slice none 0 0] 51)
  have hWs : ((w.alloc (.cells #[.int .u32 0, .bool false, .slice none 0 0, .slice none 0 0] 51)).alloc (.cells #[.int .u32 v, .bool true, .slice none 0 0, .slice none 0 0] 51)).heap.size = w.heap.size + 2 := by simp
  obtain ⟨W, hW⟩ : ∃ W, (w.alloc (.cells #[.int .u32 0, .bool false, .slice none 0 0, .slice none 0 0] 51)).alloc (.cells #[.int .u32 v, .bool true, .slice none 0 0, .slice none 0 0] 51) = W := ⟨_, rfl⟩
  rw [hW] at HX k4 k5 hWs ⊢
  rw [hz] at HX k4 k5 hWs ⊢
  have HK := Lib.hid (And.intro k4 (And.intro k5 hWs))
  clear hW k4 k5 hWs c0 l0 HT
  have hWG := HX.out.1.below (HX.out.2.1.mono (Nat.le_of_eq hz))
  have hM := (hWG.mine _ (mem_of_get HX.out.2.2.1)).1
  have HS := Lib.hid (keysD W.heap.size (bp v) n zV (vals P) (W.alloc (.cells #[.map (some (bp v))] 125)) (by simp) (by simp) ((hM.1.on (G := fun _ => False) (below_any ((Below.refl _ W).alloc (Nat.le_refl _) _)) (fun h => h))) HX.out.2.2.2.2.1 (by rw [vals_len]; exact HX.out.2.2.2.2.2))
  clear hWG hM
  refine (KD.keys_any (bp v) W).mono ?_
  rintro e w1 ⟨rfl, rfl⟩
  go_wp2_with fail
  refine HS.out.mono ?_
  rintro e w2 ⟨ao, cap, rfl, ho, hb⟩
  rw [vals_len] at ho ⊢
  have HR := Lib.hid (And.intro ho hb)
  clear ho hb HS
  go_wp2_with fail
  have HA := Lib.hid (show Below W.heap.size W w2 from ((Below.refl _ W).alloc (Nat.le_refl _) _).trans (HR.out.2.mono (by simp)))
  have hz1 := HK.out.2.2
  have HB := Lib.hid (And.intro ((HA.out.block z (by omega)).trans HK.out.1) ((HA.out.block (z + 1) (by omega)).trans HK.out.2.1))
  have HZ := Lib.hid hz1
  have HG := Lib.hid ((HX.out.1.below (HX.out.2.1.mono (Nat.le_of_eq hz))).below HA.out)
  have hzF : ¬ F (z + 1) := fun hf => by have := HX.out.1.hi _ hf; omega
  have HF := Lib.hid hzF
  clear hz1 hzF
  obtain ⟨i0, hi0, hz0, hz1, hz2⟩ := info_parts info56
  go_loopw [27] (fun u wr => ∃ (i : Nat) (pv : Value), u = .int .i64 i ∧ i ≤ P.length ∧ Hid (V1 w2 (z + 1) v 56 .u8 P i pv (fun p => #[.int .u32 v, .bool true, p, .slice none 0 0]) wr)) (fun u _ => P.length + 1 - (intOf u).toNat)
  case atStart => exact ⟨0, .slice none 0 0, rfl, Nat.zero_le _, Lib.hid ⟨HB.out.2, World.ownsRow_nil _ _ _ _, .refl _ _⟩⟩
  case round =>
    obtain ⟨i, pv, rfl, hi, HV⟩ := hrel
    have hl12 : P.length ≤ 12 := HX.out.2.2.2.2.2
    by_cases hiP : i < P.length
    · obtain ⟨k, a, m, s, he⟩ := take_lt hiP
      obtain ⟨gk, rfl, hgk1, hgk2, hgc⟩ := cells_row1 HR.out.1 (keyP_at he)
      have hgr := HG.out.on HV.out.tur (fun k' hk' e => HF.out (e ▸ hk'))
      have hmm := hgr.mine _ (mem_of_get HX.out.2.2.1)
      have hk := wf_vals hmm.1.1 (mem_at he)
      obtain ⟨r0, r1, r2⟩ : RdP g mp (bp v) v k a m s wr := rd_p hgr HX.out.2.2.1 HX.out.2.2.2.1 hk (get_of_mem (rise_vals hmm.1.1) (mem_at he))
      obtain ⟨_, d1, d2⟩ : RdP g mp (bp v) v k a m s wr.drew := rd_p (hgr.below (Below.refl _ wr).drew) HX.out.2.2.1 HX.out.2.2.2.1 hk (get_of_mem (rise_vals hmm.1.1) (mem_at he))
      have hs : s.size ≤ 281474976710656 := Nat.le_trans (hmm.1.2 _ (mem_at he)).2.2 (by decide)
      obtain ⟨ap, cp, rfl⟩ := row_slice HV.out.row
      have hkc : wr.cell? ⟨gk, i, none⟩ = some (.int .u8 k) := (by
        have := HV.out.tur.block gk (by have := hgk1; omega) (by simp at hgk2; have := HZ.out; omega)
        simpa [World.cell?, this] using hgc)
      have hbx := HV.out.box
      have x2 : wr.cell? ⟨z + 1, 2, none⟩ = some (.slice ap i cp) := by simp [World.cell?, hbx]
      have HE := Lib.hid (And.intro he hs)
      have HBX := Lib.hid hbx
      have HHI := Lib.hid (And.intro hi hiP)
      have hi12 : i < 12 := by omega
      clear hgr hmm hk he hs hgk1 hgk2 hgc hbx hi
      go_upto_region 7 with fail
      have HO := Lib.hid (show wr.ownsRow w2.heap.size 56 4 (.slice ap i cp) i (eCells .u8 (P.take i)) from HV.out.row)
      have HI := Lib.hid (And.intro hi0 (And.intro hz0 (And.intro hz1 hz2)))
      clear hi0 hz0 hz1 hz2
      go_region_law (first
        | (refine step_append_lies _ (by rfl) (.tmp 32) (.tmp 44) 48 (by rfl) w2.heap.size 56 i0 _ 4 40 Tryz.underlying48 HI.out.1 HI.out.2.1 HI.out.2.2.1 HI.out.2.2.2 (by rfl) (by decide) (.slice ap i cp) i (eCells .u8 (P.take i)) (by rfl) (HO3.out.alloc _) ⟨w3.heap.size, 0, none⟩ 1 1 [.int .u8 k, .int .u8 a, .int .i64 m, .string s] (by rfl) (by rfl) (eNew .u8 k a m s w3 56) (eOne .u8 k a m s) (by decide) (by unfold maxLen; omega) (by omega) (by have := HV3.out.size; have := HV.out.tur.size; simp; omega) (w3.heap.size + 1) (by simp) ?_; intro g4 cap4 w4 hown4 hgrow4 _ _; have hb4 := (hgrow4.block (z + 1) (by have := (Array.getElem?_eq_some_iff.1 HB3.out).1; simp; omega) (far_row HB3.out (by decide) HO3.out)).trans ((heap_alloc_old w3 (.cells #[.int .u8 k, .int .u8 a, .int .i64 m, .string s] 56) (Array.getElem?_eq_some_iff.1 HB3.out).1).trans HB3.out); have y4 : w4.cell? ⟨z + 1, 2, none⟩ = some (.slice ap i cp) := (by simp [World.cell?, hb4]); have f4 := free4 (i := 2) hb4; have H4 := Lib.hid (And.intro hown4 (And.intro hgrow4 hb4)); clear hown4 hgrow4 hb4)
        | (go_simp; go_at_call 65; refine (own_any a m s _ HE.out.2).mono ?_; rintro e' w3 ⟨rfl, hb3⟩; have hb3' : Below wr.heap.size wr w3 := (Below.refl _ wr).drew.trans hb3; have q3 := (hb3'.block (z + 1) (Array.getElem?_eq_some_iff.1 HBX.out).1).trans HBX.out; have y3 : w3.cell? ⟨z + 1, 2, none⟩ = some (.slice ap i cp) := (by simp [World.cell?, q3]); have HB3 := Lib.hid q3; have HV3 := Lib.hid hb3'; have zl : z + 1 < w3.heap.size := (Array.getElem?_eq_some_iff.1 q3).1; have HO3 := Lib.hid (row_turned HO.out (below_any (G := fun _ => False) hb3') (fun _ _ h => h)); clear hb3 hb3' q3))
      all_goals
        go_wp2_with fail
        go_roundw
        case rel => exact ⟨i + 1, .slice (some ⟨g4, 0, none⟩) (i + 1) cap4, by go_num, HHI.out.2, Lib.hid (V1.step 2 HV.out HE.out.1 HV3.out H4.out.2.1 H4.out.1 H4.out.2.2 (by decide) rfl)⟩
        case measure => have := HHI.out.2; simp [intOf] <;> omega
    · obtain rfl : i = P.length := by omega
      have hgr := HG.out.on HV.out.tur (fun k' hk' e => HF.out (e ▸ hk'))
      have cE := hgr.cells.2
      have lE := hgr.lookH HX.out.2.2.1 HX.out.2.2.2.1
      have hM := (hgr.mine _ (mem_of_get HX.out.2.2.1)).2
      obtain ⟨ap, cp, rfl⟩ := row_slice HV.out.row
      have HG2 := Lib.hid hgr
      have HV2 := Lib.hid (show V1 w2 (z + 1) v 56 .u8 P P.length (.slice ap P.length cp) (fun p => #[.int .u32 v, .bool true, p, .slice none 0 0]) wr from HV.out)
      have HS := Lib.hid (keysA wr.heap.size (be v) n zV (vals L) (wr.alloc (.cells #[.map (some (be v))] 131)) (by simp) (by simp) ((hM.1.on (G := fun _ => False) (below_any ((Below.refl _ wr).alloc (Nat.le_refl _) _)) (fun h => h))) HX.out.2.2.2.2.1)
      clear hgr hM HV hi hiP hi0 hz0 hz1 hz2
      go_wp2_with fail
      refine (KA.keys_any (be v) wr).mono ?_
      rintro e w3 ⟨rfl, rfl⟩
      go_wp2_with fail
      refine HS.out.mono ?_
      rintro e w5 ⟨ao5, cap5, rfl, ho, hb⟩
      rw [vals_len] at ho ⊢
      have HR5 := Lib.hid (And.intro ho hb)
      clear ho hb HS cE lE
      obtain ⟨wq, hwq⟩ : ∃ wq, wr = wq := ⟨_, rfl⟩
      rw [hwq] at HG2 HV2 HR5
      clear hwq
      go_wp2_with fail
      have HA5 := Lib.hid (show Below wq.heap.size wq w5 from ((Below.refl _ wq).alloc (Nat.le_refl _) _).trans (HR5.out.2.mono (by simp)))
      have HB5 := Lib.hid (show w5.heap[z + 1]? = _ from (HA5.out.block (z + 1) (Array.getElem?_eq_some_iff.1 HV2.out.box).1).trans HV2.out.box)
      have HP5 := Lib.hid (row_turned HV2.out.row (below_any (G := fun _ => False) HA5.out) (fun _ _ h => h))
      have HG5 := Lib.hid (HG2.out.below HA5.out)
      have HC5 := Lib.hid (show w5.heap[z]? = some (.cells #[.int .u32 0, .bool false, .slice none 0 0, .slice none 0 0] 51 (0, 0)) from (HA5.out.block z (by have := (Array.getElem?_eq_some_iff.1 HV2.out.box).1; omega)).trans ((HV2.out.tur.block z (by have := (Array.getElem?_eq_some_iff.1 HB.out.1).1; omega) (by omega)).trans HB.out.1))
      have HT5 := Lib.hid (show Turned (fun k => z ≤ k) w w5 from (((turned_low (K := fun k => z ≤ k) (by rw [hz]; exact HX.out.2.1)).then (turned_low HA.out)).then (HV2.out.tur.mono (fun k hk => by omega))).then (turned_low HA5.out))
      obtain ⟨i0, hi0, hz0, hz1, hz2⟩ := info_parts info58
      have hLn : L.length ≤ 1000000000000 := by
        have := ((HG5.out.mine _ (mem_of_get HX.out.2.2.1)).2.1.size)
        rw [vals_len] at this
        exact Nat.le_trans this HX.out.2.2.2.2.1
      go_loopw [57] (fun u wr => ∃ (i : Nat) (hv : Value), u = .int .i64 i ∧ i ≤ L.length ∧ Hid (V1 w5 (z + 1) v 58 .u32 L i hv (fun p => #[.int .u32 v, .bool true, .slice ap P.length cp, p]) wr)) (fun u _ => L.length + 1 - (intOf u).toNat)
      case atStart => exact ⟨0, .slice none 0 0, rfl, Nat.zero_le _, Lib.hid ⟨HB5.out, World.ownsRow_nil _ _ _ _, .refl _ _⟩⟩
      case round =>
        obtain ⟨i, hv, rfl, hi, HV⟩ := hrel
        by_cases hiL : i < L.length
        · obtain ⟨k, a, m, s, he⟩ := take_lt hiL
          obtain ⟨gk, rfl, hgk1, hgk2, hgc⟩ := cells_row1 HR5.out.1 (keyH_at he)
          have hgr := HG5.out.on HV.out.tur (fun k' hk' e => HF.out (e ▸ hk'))
          have hmm := hgr.mine _ (mem_of_get HX.out.2.2.1)
          have hk := wf_vals hmm.2.1 (mem_at he)
          obtain ⟨r0, r1, r2⟩ : RdH g me (be v) v k a m s wr := rd_h hgr HX.out.2.2.1 HX.out.2.2.2.1 hk (get_of_mem (rise_vals hmm.2.1) (mem_at he))
          obtain ⟨_, d1, d2⟩ : RdH g me (be v) v k a m s wr.drew := rd_h (hgr.below (Below.refl _ wr).drew) HX.out.2.2.1 HX.out.2.2.2.1 hk (get_of_mem (rise_vals hmm.2.1) (mem_at he))
          have hs : s.size ≤ 281474976710656 := Nat.le_trans (hmm.2.2 _ (mem_at he)).2.2 (by decide)
          obtain ⟨aq, cq, rfl⟩ := row_slice HV.out.row
          have hkc : wr.cell? ⟨gk, i, none⟩ = some (.int .u32 k) := (by
            have := HV.out.tur.block gk (by have := hgk1; omega) (by simp at hgk2; have := (Array.getElem?_eq_some_iff.1 HV2.out.box).1; omega)
            simpa [World.cell?, this] using hgc)
          have hbx := HV.out.box
          have x2 : wr.cell? ⟨z + 1, 3, none⟩ = some (.slice aq i cq) := by simp [World.cell?, hbx]
          have HE := Lib.hid (And.intro he hs)
          have HBX := Lib.hid hbx
          have HHI := Lib.hid (And.intro hi hiL)
          have hi12 : i < 1000000000000 := by omega
          have HO := Lib.hid (show wr.ownsRow w5.heap.size 58 4 (.slice aq i cq) i (eCells .u32 (L.take i)) from HV.out.row)
          have HI := Lib.hid (And.intro hi0 (And.intro hz0 (And.intro hz1 hz2)))
          clear hgr hmm hk he hs hgk1 hgk2 hgc hbx hi hi0 hz0 hz1 hz2
          go_upto_region 12 with fail
          go_region_law (first
            | (refine step_append_lies _ (by rfl) (.tmp 62) (.tmp 74) 49 (by rfl) w5.heap.size 58 i0 _ 4 40 Tryz.underlying49 HI.out.1 HI.out.2.1 HI.out.2.2.1 HI.out.2.2.2 (by rfl) (by decide) (.slice aq i cq) i (eCells .u32 (L.take i)) (by rfl) (HO3.out.alloc _) ⟨w3.heap.size, 0, none⟩ 1 1 [.int .u32 k, .int .u8 a, .int .i64 m, .string s] (by rfl) (by rfl) (eNew .u32 k a m s w3 58) (eOne .u32 k a m s) (by decide) (by unfold maxLen; omega) (by omega) (by have := HV3.out.size; have := HV.out.tur.size; simp; omega) (w3.heap.size + 1) (by simp) ?_; intro g4 cap4 w4 hown4 hgrow4 _ _; have hb4 := (hgrow4.block (z + 1) (by have := (Array.getElem?_eq_some_iff.1 HB3.out).1; simp; omega) (far_row HB3.out (by decide) HO3.out)).trans ((heap_alloc_old w3 (.cells #[.int .u32 k, .int .u8 a, .int .i64 m, .string s] 58) (Array.getElem?_eq_some_iff.1 HB3.out).1).trans HB3.out); have y4 : w4.cell? ⟨z + 1, 3, none⟩ = some (.slice aq i cq) := (by simp [World.cell?, hb4]); have f4 := free4 (i := 3) hb4; have H4 := Lib.hid (And.intro hown4 (And.intro hgrow4 hb4)); clear hown4 hgrow4 hb4)
            | (go_simp; go_at_call 65; refine (own_any a m s _ HE.out.2).mono ?_; rintro e' w3 ⟨rfl, hb3⟩; have hb3' : Below wr.heap.size wr w3 := (Below.refl _ wr).drew.trans hb3; have q3 := (hb3'.block (z + 1) (Array.getElem?_eq_some_iff.1 HBX.out).1).trans HBX.out; have y3 : w3.cell? ⟨z + 1, 3, none⟩ = some (.slice aq i cq) := (by simp [World.cell?, q3]); have HB3 := Lib.hid q3; have HV3 := Lib.hid hb3'; have zl : z + 1 < w3.heap.size := (Array.getElem?_eq_some_iff.1 q3).1; have HO3 := Lib.hid (row_turned HO.out (below_any (G := fun _ => False) hb3') (fun _ _ h => h)); clear hb3 hb3' q3))
          all_goals
            go_wp2_with fail
            go_roundw
            case rel => exact ⟨i + 1, .slice (some ⟨g4, 0, none⟩) (i + 1) cap4, by go_num, HHI.out.2, Lib.hid (V1.step 3 HV.out HE.out.1 HV3.out H4.out.2.1 H4.out.1 H4.out.2.2 (by decide) rfl)⟩
            case measure => have := HHI.out.2; simp [intOf] <;> omega
        · obtain rfl : i = L.length := by omega
          have hbx := HV.out.box
          obtain ⟨aq, cq, rfl⟩ := row_slice HV.out.row
          have x0 : wr.cell? ⟨z + 1, 0, none⟩ = some (.int .u32 v) := by simp [World.cell?, hbx]
          have x1 : wr.cell? ⟨z + 1, 1, none⟩ = some (.bool true) := by simp [World.cell?, hbx]
          have x2 : wr.cell? ⟨z + 1, 2, none⟩ = some (.slice ap P.length cp) := by simp [World.cell?, hbx]
          have x3 : wr.cell? ⟨z + 1, 3, none⟩ = some (.slice aq L.length cq) := by simp [World.cell?, hbx]
          have hc := (HV.out.tur.block z (Array.getElem?_eq_some_iff.1 HC5.out).1 (by omega)).trans HC5.out
          obtain ⟨p0, f0, p1, f1, p2, f2, p3, f3, hend⟩ := four (.int .u32 v) (.bool true) (.slice ap P.length cp) (.slice aq L.length cq) hc
          have HEnd := Lib.hid hend
          have HCz := Lib.hid hc
          have HVE := Lib.hid (show V1 w5 (z + 1) v 58 .u32 L L.length (.slice aq L.length cq) (fun p => #[.int .u32 v, .bool true, .slice ap P.length cp, p]) wr from HV.out)
          clear hbx hc hend hi0 hz0 hz1 hz2 HV hi hiL
          go_wp2_with fail
          refine bodyPost_ret (v := .agg #[.int .u32 v, .bool true, .slice ap P.length cp, .slice aq L.length cq]) (results_cell_row rfl _ _ z 51 _ (0, 0) _ rfl HEnd.out Tryz.underlying51 rfl size51) rfl ?_
          have t4 := four_turned wr z (.int .u32 v) (.bool true) (.slice ap P.length cp) (.slice aq L.length cq)
          have rp := row_turned HP5.out HVE.out.tur (fun g hg e => far_row HB5.out (by decide) HP5.out (by rw [hg, e]))
          have rl := HVE.out.row
          rw [List.take_length] at rp rl
          have hzW : w.heap.size ≤ w2.heap.size := by have := HA.out.size; have := HZ.out; omega
          have hzW5 : w.heap.size ≤ w5.heap.size := Nat.le_trans hzW (Nat.le_trans HV2.out.tur.size HA5.out.size)
          refine ⟨⟨_, rfl, _, _, rfl, row_base (row_turned rp t4 (fun g hg e => far_row HCz.out (by decide) rp (by rw [hg, e]))) hzW, row_base (row_turned rl t4 (fun g hg e => far_row HCz.out (by decide) rl (by rw [hg, e]))) hzW5⟩, ?_⟩
          exact ((HT5.out.then (HVE.out.tur.mono (fun k hk => by omega))).then (t4.mono (fun k hk => by omega))).below (Nat.le_refl _) (fun k hk => by omega)
end Go.Proofs.YtafenkepigmcaaaGreatDoor.Gr
