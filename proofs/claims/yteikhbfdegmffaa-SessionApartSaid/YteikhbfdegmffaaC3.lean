/- session: two tables side by side; the law's steps. -/
import Derived.Test.YteikhbfdegmffaaC1
import Derived.LaidEqlPtr
namespace Go.Proofs.Yteikhbfdegmffaa.Se
open Go Go.RowKit
/-- A step at a client. -/
def atC (K : Nat → Sm) (cl sq : Int) (f : Sm → Sm) : Nat → Sm := if cl < 4 ∧ sq ≠ 0 then put K cl.toNat (f (K cl.toNat)) else K
theorem atC_bad {K : Nat → Sm} {cl sq : Int} {f : Sm → Sm} (h : 4 ≤ cl ∨ sq = 0) : atC K cl sq f = K := by
  unfold atC; rw [if_neg (by omega)]
theorem atC_ok {K : Nat → Sm} {i : Nat} {sq : Int} {f : Sm → Sm} (hi : i < 4) (hs : 0 < sq) : atC K (i : Int) sq f = put K i (f (K i)) := by
  unfold atC; rw [if_pos (by omega)]; simp
theorem atC_far {K : Nat → Sm} {cl sq : Int} {f : Sm → Sm} {c : Nat} (h0 : 0 ≤ cl) (h : cl ≠ (c : Int)) : atC K cl sq f c = K c := by
  unfold atC
  split
  · exact put_ne _ _ (by omega)
  · rfl
theorem atC_alike {K L : Nat → Sm} {cl sq : Int} {f : Sm → Sm} {c : Nat} (h : K c = L c) : atC K cl sq f c = atC L cl sq f c := by
  unfold atC
  split
  · by_cases e : c = cl.toNat
    · subst e; rw [put_at, put_at, h]
    · rw [put_ne _ _ e, put_ne _ _ e, h]
  · exact h
section
variable {w0 w : World} {b : Nat} {P : Nat → Prop} {K : Nat → Sm}
theorem step_start (h : TabS w0 b P K w) (cl sq : Int) (c0 : 0 ≤ cl) (s0 : 0 ≤ sq) (s1 : sq ≤ 4294967295) :
    Calls Try.prog 7 #[.pointer (some ⟨b, 0, none⟩), .int .u8 cl, .int .u32 sq] w fun e w' => (∃ q, e = .returned (.int .i64 q)) ∧ TabS w0 b P (atC K cl sq fun k => startK k sq) w' ∧ Did b w w' := by
  rcases ok_or cl sq c0 s0 with hb | ⟨i, rfl, hi, hs⟩
  · rw [atC_bad hb]
    refine (start_bad _ cl sq w hb).mono ?_
    rintro e w' ⟨rfl, rfl⟩
    exact ⟨⟨_, rfl⟩, h, .refl _ _⟩
  · rw [atC_ok hi hs]
    refine (start_ok h hi hs s1).mono ?_
    rintro e w' ⟨rfl, h4, hd⟩
    exact ⟨⟨_, rfl⟩, h4, hd⟩
theorem step_fail (h : TabS w0 b P K w) (cl sq : Int) (c0 : 0 ≤ cl) (s0 : 0 ≤ sq) :
    Calls Try.prog 11 #[.pointer (some ⟨b, 0, none⟩), .int .u8 cl, .int .u32 sq] w fun e w' => (∃ q, e = .returned (.int .i64 q)) ∧ TabS w0 b P (atC K cl sq fun k => failK k sq) w' ∧ Did b w w' := by
  rcases ok_or cl sq c0 s0 with hb | ⟨i, rfl, hi, hs⟩
  · rw [atC_bad hb]
    refine (fail_bad _ cl sq w hb).mono ?_
    rintro e w' ⟨rfl, rfl⟩
    exact ⟨⟨_, rfl⟩, h, .refl _ _⟩
  · rw [atC_ok hi hs]
    refine (fail_ok h hi hs).mono ?_
    rintro e w' ⟨rfl, h4, hd⟩
    exact ⟨⟨_, rfl⟩, h4, hd⟩
theorem step_fin (h : TabS w0 b P K w) (cl sq : Int) (c0 : 0 ≤ cl) (s0 : 0 ≤ sq) (s1 : sq ≤ 4294967295) {a : An} {p : Pl} (ha : AnAt w a p) :
    Calls Try.prog 8 #[.pointer (some ⟨b, 0, none⟩), .int .u8 cl, .int .u32 sq, a.val p] w fun e w' => (∃ q, e = .returned (.int .i64 q)) ∧ TabS w0 b P (atC K cl sq fun k => finK k sq a) w' ∧ Did b w w' := by
  rcases ok_or cl sq c0 s0 with hb | ⟨i, rfl, hi, hs⟩
  · rw [atC_bad hb]
    refine (fin_bad a p _ cl sq w hb).mono ?_
    rintro e w' ⟨rfl, hb'⟩
    exact ⟨⟨_, rfl⟩, h.below hb', below_any hb'⟩
  · rw [atC_ok hi hs]
    refine (fin_ok h hi hs s1 ha).mono ?_
    rintro e w' ⟨rfl, h4, hd⟩
    exact ⟨⟨_, rfl⟩, h4, hd⟩
def askF (k : Sm) (sq : Int) : Int × An × Int := if sq = 0 then (0, .zero, 1) else askR k sq
theorem ask_any {c : Nat} (h : TabS w0 b P K w) (hc : c < 4) (sq : Int) (s0 : 0 ≤ sq) (s1 : sq ≤ 4294967295) :
    Calls Try.prog 10 #[.pointer (some ⟨b, 0, none⟩), .int .u8 c, .int .u32 sq] w (AskOf (.int .i64 (askF (K c) sq).1) (.int .i64 (askF (K c) sq).2.2) (askF (K c) sq).2.1 w) := by
  by_cases h0 : sq = 0
  · have e : askF (K c) sq = (0, .zero, 1) := if_pos h0
    rw [e]
    exact ask_bad _ _ _ w (.inr h0)
  · have e : askF (K c) sq = askR (K c) sq := if_neg h0
    rw [e]
    exact ask_ok h hc (by omega) s1
/-- What befalls one table leaves another one as it is. -/
theorem TabS.other {w' : World} {b' : Nat} (h : TabS w0 b P K w) (hd : Did b' w w') (ne : b ≠ b') (hp : P b') (hb : w0.heap.size ≤ b') : TabS w0 b P K w' := by
  obtain ⟨F, h⟩ := h
  exact ⟨F, h.on hd ne (fun i hi => (h.ans i hi).2.1.one hp) (fun k e => by have : k = b' := e; omega)⟩
theorem TabS.blk (h : TabS w0 b P K w) : b < w.heap.size := by
  obtain ⟨F, h⟩ := h
  exact h.tab.lt
end
/-- A step of the law's at one table. -/
def stepK (K : Nat → Sm) (o : OpS) : Nat → Sm := if o.kd = 1 then atC K o.cl o.sq (fun k => startK k o.sq) else if o.kd = 2 then atC K o.cl o.sq (fun k => finK k o.sq o.a) else if o.kd = 3 then atC K o.cl o.sq (fun k => failK k o.sq) else K
theorem stepK_far {K : Nat → Sm} {o : OpS} {c : Nat} (h0 : 0 ≤ o.cl) (h : o.cl ≠ (c : Int)) : stepK K o c = K c := by
  unfold stepK
  split
  · exact atC_far h0 h
  · split
    · exact atC_far h0 h
    · split
      · exact atC_far h0 h
      · rfl
theorem stepK_alike {K L : Nat → Sm} {o : OpS} {c : Nat} (h : K c = L c) : stepK K o c = stepK L o c := by
  unfold stepK
  split
  · exact atC_alike h
  · split
    · exact atC_alike h
    · split
      · exact atC_alike h
      · exact h
/-- Two tables; y of them have had the step o, of which the client c knows the same in both. -/
def PairS (w0 : World) (b1 b2 c : Nat) (o : OpS) (y : Nat) (w : World) : Prop :=
  ∃ K L, TabS w0 b1 (fun k => k = b1 ∨ k = b2) (if y = 1 then stepK K o else K) w ∧ TabS w0 b2 (fun k => k = b1 ∨ k = b2) L w ∧ K c = L c ∧ b1 ≠ b2 ∧ w0.heap.size ≤ b1 ∧ w0.heap.size ≤ b2
section
variable {w0 w : World} {b1 b2 c : Nat} {o : OpS}
theorem PairS.below {y : Nat} {w' : World} (h : PairS w0 b1 b2 c o y w) (hb : Below w.heap.size w w') : PairS w0 b1 b2 c o y w' := by
  obtain ⟨K, L, h1, h2, h3⟩ := h
  exact ⟨K, L, h1.below hb, h2.below hb, h3⟩
theorem PairS.low {y : Nat} (h : PairS w0 b1 b2 c o y w) : Below w0.heap.size w0 w := by
  obtain ⟨K, L, h1, _⟩ := h
  exact h1.low
theorem PairS.start (o' : OpS) (h : PairS w0 b1 b2 c o 0 w) : PairS w0 b1 b2 c o' 0 w := h
theorem PairS.end_ (h : PairS w0 b1 b2 c o 2 w) : PairS w0 b1 b2 c o 0 w := h
theorem PairS.skip (h : PairS w0 b1 b2 c o 1 w) (h0 : 0 ≤ o.cl) (hc : o.cl ≠ (c : Int)) : PairS w0 b1 b2 c o 2 w := by
  obtain ⟨K, L, h1, h2, h3, h4⟩ := h
  exact ⟨_, _, h1, h2, by show stepK K o c = L c; rw [stepK_far h0 hc]; exact h3, h4⟩
/-- The table whose turn it is. -/
def turnB (b1 b2 y : Nat) : Nat := if y = 0 then b1 else b2
theorem PairS.at_ {y : Nat} (h : PairS w0 b1 b2 c o y w) (hy : y < 2) : ∃ K, TabS w0 (turnB b1 b2 y) (fun k => k = b1 ∨ k = b2) K w ∧ ∀ w', TabS w0 (turnB b1 b2 y) (fun k => k = b1 ∨ k = b2) (stepK K o) w' → Did (turnB b1 b2 y) w w' → PairS w0 b1 b2 c o (y + 1) w' := by
  obtain ⟨K, L, h1, h2, h3, h4, h5, h6⟩ := h
  obtain rfl | rfl : y = 0 ∨ y = 1 := by omega
  · exact ⟨K, h1, fun w' ht hd => ⟨K, L, ht, h2.other hd (fun e => h4 e.symm) (.inl rfl) h5, h3, h4, h5, h6⟩⟩
  · exact ⟨L, h2, fun w' ht hd => ⟨stepK K o, stepK L o, h1.other hd h4 (.inr rfl) h6, ht, stepK_alike h3, h4, h5, h6⟩⟩
theorem PairS.starts {y : Nat} (h : PairS w0 b1 b2 c o y w) (hy : y < 2) (hk : o.kd = 1) (c0 : 0 ≤ o.cl) (s0 : 0 ≤ o.sq) (s1 : o.sq ≤ 4294967295) :
    Calls Try.prog 7 #[.pointer (some ⟨turnB b1 b2 y, 0, none⟩), .int .u8 o.cl, .int .u32 o.sq] w fun e w' => (∃ q, e = .returned (.int .i64 q)) ∧ PairS w0 b1 b2 c o (y + 1) w' ∧ Did (turnB b1 b2 y) w w' := by
  obtain ⟨K, h1, h2⟩ := h.at_ hy
  refine (step_start h1 o.cl o.sq c0 s0 s1).mono ?_
  rintro e w' ⟨hq, ht, hd⟩
  exact ⟨hq, h2 w' (by unfold stepK; rw [if_pos hk]; exact ht) hd, hd⟩
theorem PairS.fails {y : Nat} (h : PairS w0 b1 b2 c o y w) (hy : y < 2) (hk : o.kd = 3) (c0 : 0 ≤ o.cl) (s0 : 0 ≤ o.sq) :
    Calls Try.prog 11 #[.pointer (some ⟨turnB b1 b2 y, 0, none⟩), .int .u8 o.cl, .int .u32 o.sq] w fun e w' => (∃ q, e = .returned (.int .i64 q)) ∧ PairS w0 b1 b2 c o (y + 1) w' ∧ Did (turnB b1 b2 y) w w' := by
  obtain ⟨K, h1, h2⟩ := h.at_ hy
  refine (step_fail h1 o.cl o.sq c0 s0).mono ?_
  rintro e w' ⟨hq, ht, hd⟩
  exact ⟨hq, h2 w' (by unfold stepK; rw [if_neg (by omega), if_neg (by omega), if_pos hk]; exact ht) hd, hd⟩
theorem PairS.fins {y : Nat} (h : PairS w0 b1 b2 c o y w) (hy : y < 2) (hk : o.kd = 2) (c0 : 0 ≤ o.cl) (s0 : 0 ≤ o.sq) (s1 : o.sq ≤ 4294967295) {p : Pl} (ha : AnAt w o.a p) :
    Calls Try.prog 8 #[.pointer (some ⟨turnB b1 b2 y, 0, none⟩), .int .u8 o.cl, .int .u32 o.sq, o.a.val p] w fun e w' => (∃ q, e = .returned (.int .i64 q)) ∧ PairS w0 b1 b2 c o (y + 1) w' ∧ Did (turnB b1 b2 y) w w' := by
  obtain ⟨K, h1, h2⟩ := h.at_ hy
  refine (step_fin h1 o.cl o.sq c0 s0 s1 ha).mono ?_
  rintro e w' ⟨hq, ht, hd⟩
  exact ⟨hq, h2 w' (by unfold stepK; rw [if_neg (by omega), if_pos hk]; exact ht) hd, hd⟩
theorem PairS.idle {y : Nat} (h : PairS w0 b1 b2 c o y w) (hy : y < 2) (h1 : o.kd ≠ 1) (h2 : o.kd ≠ 2) (h3 : o.kd ≠ 3) : PairS w0 b1 b2 c o (y + 1) w := by
  obtain ⟨K, h4, h5⟩ := h.at_ hy
  exact h5 w (by unfold stepK; rw [if_neg h1, if_neg h2, if_neg h3]; exact h4) (.refl _ _)
theorem PairS.blk {y : Nat} (h : PairS w0 b1 b2 c o y w) (z : Nat) : turnB b1 b2 z < w.heap.size := by
  obtain ⟨K, L, h1, h2, _⟩ := h
  unfold turnB
  split
  · exact h1.blk
  · exact h2.blk
end
/-- Two tables made. -/
theorem pair_made {w w1 w2 : World} {b1 b2 c : Nat} (o : OpS) (h1 : TabF w b1 (fun k => k = b1) (fun _ => Sm.zero) (fun _ => Pl.nil) w1) (h2 : TabF w1 b2 (fun k => k = b2) (fun _ => Sm.zero) (fun _ => Pl.nil) w2) (hs : w1.heap.size = b2) (hb : Below w1.heap.size w1 w2) : PairS w b1 b2 c o 0 w2 := by
  have ne : b1 ≠ b2 := by have := h1.tab.lt; omega
  have off0 : ∀ (P : Nat → Prop), Pl.nil.off P := fun P => ⟨fun _ _ e => by simp [Pl.nil] at e, fun _ _ e => by simp [Pl.nil] at e⟩
  have t1 := h1.below hb
  have l2 := h2.tab.lt
  have l1 := t1.tab.lt
  have hlow := h1.low.size
  have pl : ∀ k, (k = b1 ∨ k = b2) → k < w2.heap.size := fun k hk => by rcases hk with rfl | rfl <;> assumption
  exact ⟨_, _, ⟨_, t1.tab, fun i hi => ⟨(t1.ans i hi).1, off0 _, (t1.ans i hi).2.2⟩, t1.low, t1.b0, .inl rfl, pl⟩, ⟨_, h2.tab, fun i hi => ⟨(h2.ans i hi).1, off0 _, (h2.ans i hi).2.2⟩, t1.low, by omega, .inr rfl, pl⟩, rfl, ne, t1.b0, by omega⟩
/-- In a step: its copy, the list of the tables, and what has been done. -/
structure InS (W0 : World) (b1 b2 c : Nat) (o : OpS) (x s y : Nat) (w : World) : Prop where
  pair : PairS W0 b1 b2 c o y w
  k0 : w.cell? ⟨x, 0, none⟩ = some (.int .u8 o.kd)
  op : OpC x o w
  l0 : w.cell? ⟨s, 0, none⟩ = some (.pointer (some ⟨b1, 0, none⟩))
  l1 : w.cell? ⟨s, 1, none⟩ = some (.pointer (some ⟨b2, 0, none⟩))
  nx : ∀ z, x ≠ turnB b1 b2 z
  ns : ∀ z, s ≠ turnB b1 b2 z
theorem cell_on {Z : Nat → Prop} {x i : Nat} {v : Value} {w w' : World} (h : w.cell? ⟨x, i, none⟩ = some v) (ht : Turned Z w w') (hx : ¬ Z x) : w'.cell? ⟨x, i, none⟩ = some v := by
  have hb := ht.block x (World.block_lt_of_cell? w _ h) hx
  unfold World.cell? at *
  simp only [hb]
  exact h
section
variable {W0 w w' : World} {b1 b2 c : Nat} {o : OpS} {x s y : Nat}
theorem InS.step (h : InS W0 b1 b2 c o x s y w) (hp : PairS W0 b1 b2 c o (y + 1) w') (hd : Did (turnB b1 b2 y) w w') : InS W0 b1 b2 c o x s (y + 1) w' :=
  ⟨hp, cell_on h.k0 hd (h.nx y), h.op.on hd (h.nx y), cell_on h.l0 hd (h.ns y), cell_on h.l1 hd (h.ns y), h.nx, h.ns⟩
theorem InS.skip (h : InS W0 b1 b2 c o x s 1 w) (h0 : 0 ≤ o.cl) (hc : o.cl ≠ (c : Int)) : InS W0 b1 b2 c o x s 2 w := ⟨h.pair.skip h0 hc, h.k0, h.op, h.l0, h.l1, h.nx, h.ns⟩
theorem InS.below (h : InS W0 b1 b2 c o x s y w) (hb : Below w.heap.size w w') : InS W0 b1 b2 c o x s y w' :=
  ⟨h.pair.below hb, cell_on (Z := fun _ => False) h.k0 (below_any hb) id, h.op.on (Z := fun _ => False) (below_any hb) id, cell_on (Z := fun _ => False) h.l0 (below_any hb) id, cell_on (Z := fun _ => False) h.l1 (below_any hb) id, h.nx, h.ns⟩
theorem InS.made (h : PairS W0 b1 b2 c o 0 w) : InS W0 b1 b2 c o w.heap.size (w.heap.size + 1) 0 ((w.alloc (.cells #[.int .u8 o.kd, .int .u8 o.cl, .int .u32 o.sq, .int .i64 o.a.E, .int .i64 o.a.At, .slice o.p.vo o.a.V.length o.p.vc, .slice o.p.lo o.a.L.length o.p.lc] 36)).alloc (.cells #[.pointer (some ⟨b1, 0, none⟩), .pointer (some ⟨b2, 0, none⟩)] 30)) := by
  have hb1 : Below w.heap.size w (w.alloc (.cells #[.int .u8 o.kd, .int .u8 o.cl, .int .u32 o.sq, .int .i64 o.a.E, .int .i64 o.a.At, .slice o.p.vo o.a.V.length o.p.vc, .slice o.p.lo o.a.L.length o.p.lc] 36)) := (Below.refl _ w).alloc (Nat.le_refl _) _
  have hb2 := hb1.alloc hb1.size (.cells #[.pointer (some ⟨b1, 0, none⟩), .pointer (some ⟨b2, 0, none⟩)] 30)
  have hx : ((w.alloc (.cells #[.int .u8 o.kd, .int .u8 o.cl, .int .u32 o.sq, .int .i64 o.a.E, .int .i64 o.a.At, .slice o.p.vo o.a.V.length o.p.vc, .slice o.p.lo o.a.L.length o.p.lc] 36)).alloc (.cells #[.pointer (some ⟨b1, 0, none⟩), .pointer (some ⟨b2, 0, none⟩)] 30)).heap[w.heap.size]? = some (.cells #[.int .u8 o.kd, .int .u8 o.cl, .int .u32 o.sq, .int .i64 o.a.E, .int .i64 o.a.At, .slice o.p.vo o.a.V.length o.p.vc, .slice o.p.lo o.a.L.length o.p.lc] 36 (0, 0)) := (heap_alloc_old _ _ (by simp)).trans (heap_alloc_new _ _)
  have hs := heap_alloc2_new w (.cells #[.int .u8 o.kd, .int .u8 o.cl, .int .u32 o.sq, .int .i64 o.a.E, .int .i64 o.a.At, .slice o.p.vo o.a.V.length o.p.vc, .slice o.p.lo o.a.L.length o.p.lc] 36) (.cells #[.pointer (some ⟨b1, 0, none⟩), .pointer (some ⟨b2, 0, none⟩)] 30)
  have hp := h.below hb2
  generalize ((w.alloc (.cells #[.int .u8 o.kd, .int .u8 o.cl, .int .u32 o.sq, .int .i64 o.a.E, .int .i64 o.a.At, .slice o.p.vo o.a.V.length o.p.vc, .slice o.p.lo o.a.L.length o.p.lc] 36)).alloc (.cells #[.pointer (some ⟨b1, 0, none⟩), .pointer (some ⟨b2, 0, none⟩)] 30)) = W at *
  refine ⟨hp, by simp [World.cell?, hx], ?_, by simp [World.cell?, hs], by simp [World.cell?, hs], fun z => by have := h.blk z; omega, fun z => by have := h.blk z; omega⟩
  unfold OpC World.cell?
  simp only [hx]
  exact ⟨rfl, rfl, rfl, rfl, rfl, rfl⟩
end
theorem info49 : (Try.prog.info? 49).map (·.size) = some 24 := by kernel_rfl
theorem ptr_same (b : Nat) (w : World) : (binOp .eql 30 (.pointer (some ⟨b, 0, none⟩)) (.pointer (some ⟨b, 0, none⟩))).run Try.prog w = .ok (.bool true) w := by
  obtain ⟨j, hj, _⟩ := Option.map_eq_some_iff.1 info49
  exact run_eql_ptr_same w _ Try.underlying30 hj
theorem PairS.neq {w0 w : World} {b1 b2 c : Nat} {o : OpS} {y : Nat} (h : PairS w0 b1 b2 c o y w) : (binOp .eql 30 (.pointer (some ⟨b1, 0, none⟩)) (.pointer (some ⟨b2, 0, none⟩))).run Try.prog w = .ok (.bool false) w := by
  obtain ⟨j, hj, hs⟩ := Option.map_eq_some_iff.1 info49
  obtain ⟨K, L, ⟨F, h1⟩, ⟨G, h2⟩, _, h5, _⟩ := h
  exact run_eql_ptr_other w Try.underlying30 hj (by rw [hs]; decide) (fun e => h5 (by injection e)) h1.tab h2.tab
theorem PairS.two {w0 w : World} {b1 b2 c : Nat} {o : OpS} (h : PairS w0 b1 b2 c o 0 w) : ∃ (P : Nat → Prop) (k : Sm), (∃ K, TabS w0 b1 P K w ∧ K c = k) ∧ (∃ L, TabS w0 b2 P L w ∧ L c = k) := by
  obtain ⟨K, L, h1, h2, h3, _⟩ := h
  exact ⟨_, K c, ⟨K, h1, rfl⟩, ⟨L, h2, h3.symm⟩⟩
/-- A table that knows k of the client c. -/
def Knows (w0 : World) (b c : Nat) (P : Nat → Prop) (k : Sm) (w : World) : Prop := ∃ K, TabS w0 b P K w ∧ K c = k
theorem Knows.below {w0 w w' : World} {b c : Nat} {P : Nat → Prop} {k : Sm} (h : Knows w0 b c P k w) (hb : Below w.heap.size w w') : Knows w0 b c P k w' := by
  obtain ⟨K, h1, h2⟩ := h
  exact ⟨K, h1.below hb, h2⟩
theorem Knows.low {w0 w : World} {b c : Nat} {P : Nat → Prop} {k : Sm} (h : Knows w0 b c P k w) : Below w0.heap.size w0 w := by
  obtain ⟨K, h1, _⟩ := h
  exact h1.low
theorem Knows.ask {w0 w : World} {b c : Nat} {P : Nat → Prop} {k : Sm} (h : Knows w0 b c P k w) (hc : c < 4) (sq : Int) (s0 : 0 ≤ sq) (s1 : sq ≤ 4294967295) :
    Calls Try.prog 10 #[.pointer (some ⟨b, 0, none⟩), .int .u8 c, .int .u32 sq] w (AskOf (.int .i64 (askF k sq).1) (.int .i64 (askF k sq).2.2) (askF k sq).2.1 w) := by
  obtain ⟨K, h1, h2⟩ := h
  rw [← h2]
  exact ask_any h1 hc sq s0 s1
theorem Knows.last {w0 w : World} {b c : Nat} {P : Nat → Prop} {k : Sm} (h : Knows w0 b c P k w) (hc : c < 4) :
    Calls Try.prog 13 #[.pointer (some ⟨b, 0, none⟩), .int .u8 c] w (AskOf (.int .u32 k.last) (.int .i64 0) k.a w) := by
  obtain ⟨K, h1, h2⟩ := h
  rw [← h2]
  exact last_ok h1 hc
/-- A variable that holds an answer. -/
def HoldsA (x : Nat) (a : An) (p : Pl) (w : World) : Prop := w.heap[x]? = some (.cells #[.int .i64 a.E, .int .i64 a.At, .slice p.vo a.V.length p.vc, .slice p.lo a.L.length p.lc] 28 (0, 0)) ∧ AnAt w a p
theorem HoldsA.below {x : Nat} {a : An} {p : Pl} {w w' : World} (h : HoldsA x a p w) (hb : Below w.heap.size w w') : HoldsA x a p w' := ⟨(hb.block _ (Array.getElem?_eq_some_iff.1 h.1).1).trans h.1, h.2.below hb⟩
theorem HoldsA.made {a : An} {p : Pl} {w : World} (h : AnAt w a p) : HoldsA w.heap.size a p (w.alloc (.cells #[.int .i64 a.E, .int .i64 a.At, .slice p.vo a.V.length p.vc, .slice p.lo a.L.length p.lc] 28)) :=
  ⟨heap_alloc_new _ _, h.below ((Below.refl _ w).alloc (Nat.le_refl _) _)⟩
end Go.Proofs.Yteikhbfdegmffaa.Se
