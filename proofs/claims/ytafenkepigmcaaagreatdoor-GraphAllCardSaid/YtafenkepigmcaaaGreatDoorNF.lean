/- graph: within so many edges: what is found, by content and in memory. -/
import Derived.Test.YtafenkepigmcaaaGreatDoorNE
namespace Go.Proofs.YtafenkepigmcaaaGreatDoor.Gr
open Go Go.RowKit YtafenkepigmcaaaGreatDoor.So
/-- Whom a vertex has an edge to. -/
def adjG (G : GV) (y : Int) : List Int := keysE (hG G y)
/-- Within k edges of v. -/
def Wi (G : GV) (v : Int) : Nat → Int → Prop
  | 0, x => x = v
  | k + 1, x => Wi G v k x ∨ ∃ y, Wi G v k y ∧ x ∈ adjG G y
/-- Every edge leads to a vertex that is there. -/
def Closed (G : GV) : Prop := ∀ y x, x ∈ adjG G y → (getE G x).isSome = true
theorem Wi.there {G : GV} {v : Int} (hv : (getE G v).isSome = true) (hc : Closed G) : ∀ k x, Wi G v k x → (getE G x).isSome = true
  | 0, x, h => by rw [h]; exact hv
  | k + 1, x, h => by
    rcases h with h | ⟨y, _, hx⟩
    · exact Wi.there hv hc k x h
    · exact hc y x hx
theorem rise_sub {a b : List Int} (ha : a.Pairwise (· < ·)) (hb : b.Pairwise (· < ·)) (h : ∀ x ∈ a, x ∈ b) : a.length ≤ b.length := by
  induction b generalizing a with
  | nil =>
    cases a with
    | nil => simp
    | cons x a => have := h x (by simp); cases this
  | cons y b ih =>
    obtain ⟨b1, b2⟩ := List.pairwise_cons.1 hb
    cases a with
    | nil => simp
    | cons x a =>
      obtain ⟨a1, a2⟩ := List.pairwise_cons.1 ha
      have := ih a2 b2 (fun z hz => by
        rcases List.mem_cons.1 (h z (by simp [hz])) with e | e
        · have h1 := a1 z hz
          rcases List.mem_cons.1 (h x (by simp)) with e' | e'
          · omega
          · have := b1 x e'; omega
        · exact e)
      simp only [List.length_cons]; omega
def fVals (E : EL Unit) : ES := mapE (fun _ _ => .agg #[]) E
def inE (E : EL Unit) (x : Int) : Prop := (getE E x).isSome = true
theorem zero161 (w : World) : (zeroValue 161).run Tryz.prog w = .ok (.agg #[]) w := by kernel_rfl
/-- The map of what is found. -/
def FM (w : World) (b : Nat) (E : EL Unit) : Prop := MapE 23 .u32 (.agg #[]) w b E.length (fVals E)
theorem FM.rise {w : World} {b : Nat} {E : EL Unit} (h : FM w b E) : RiseE E := rise_of_map (MapE.rise h)
theorem FM.look {w : World} {b : Nat} {E : EL Unit} (h : FM w b E) {x : Int} (hx : In32 x) : (Instr.lookup 162 (.map (some b)) (.int .u32 x) true).run Tryz.prog w = .ok (.tuple #[.agg #[], .bool (getE E x).isSome]) w := by
  have := MapE.look_ok h Tryz.underlying23 Tryz.underlying162 (zero161 w) hx
  unfold fVals at this
  rw [getE_map] at this
  cases hq : getE E x <;> rw [hq] at this <;> exact this
theorem FM.add {w : World} {b : Nat} {E : EL Unit} (h : FM w b E) {x : Int} (hx : In32 x) (hno : getE E x = none) (hl : E.length < maxLen) : ∃ w', (Instr.mapUpdate 162 (.map (some b)) (.int .u32 x) (.agg #[])).run Tryz.prog w = .ok () w' ∧ FM w' b (putE E x ()) ∧ w.grownBy w' (some b) := by
  obtain ⟨w', h1, h2, h3⟩ := MapE.put h Tryz.underlying23 Tryz.underlying162 hl hx (.agg #[])
  refine ⟨w', h1, ?_, h3⟩
  have hl2 : (putE E x ()).length = E.length + 1 := by rw [putE_len E x () (FM.rise h), hno]; rfl
  unfold FM
  rw [hl2]
  unfold fVals
  rw [mapE_put]
  exact h2
theorem FM.block {w : World} {b : Nat} {E : EL Unit} (h : FM w b E) : ∃ es clock, w.heap[b]? = some (.map es clock) := MapE.block h
theorem inE_put {E : EL Unit} (h : RiseE E) (x y : Int) : inE (putE E x ()) y ↔ inE E y ∨ y = x := by
  unfold inE
  rw [getE_put E x () h]
  by_cases e : y = x
  · simp [e]
  · simp [e]
/-- What the walk over edges keeps in memory: the map of what is found, the rim, those who come next. -/
structure WMem (w : World) (b : Nat) (E : EL Unit) (rv : Value) (R : List Int) (B2 : Nat) (nv : Value) (N : List Int) (wr : World) : Prop where
  fm : FM wr b E
  bw : w.heap.size ≤ b
  rr : wr.ownsRow w.heap.size 23 1 rv R.length (KA.u32s R)
  rlt : ∀ g, rv.ownBlock = some g → g < B2
  nr : wr.ownsRow B2 23 1 nv N.length (KA.u32s N)
  bel : Below w.heap.size w wr
  b1 : w.heap.size ≤ B2
  b2 : B2 ≤ wr.heap.size
theorem row_map_ne {w : World} {B e s n b : Nat} {v : Value} {xs : List Value} (h : w.ownsRow B e s v n xs) (hb : ∃ es clock, w.heap[b]? = some (.map es clock)) : v.ownBlock ≠ some b := by
  intro hg
  obtain ⟨es, clock, hb⟩ := hb
  rcases h.2 with ⟨rfl, _⟩ | ⟨g1, cap, cur, rfl, _, h2, _⟩
  · simp [Value.ownBlock] at hg
  · have e1 : g1 = b := by simpa [Value.ownBlock] using hg
    subst e1
    rw [hb] at h2; cases h2
theorem row_iter_ne {w : World} {B e s n b : Nat} {v : Value} {xs : List Value} (h : w.ownsRow B e s v n xs) {P : Program} {k : TypeId} {bm m cnt : Nat} {D : DataW Value} {left : Lit → Bool} (hr : w.ranges P k tok bm b m D left cnt) : v.ownBlock ≠ some b := by
  intro hg
  obtain ⟨es, clock, since, seen, c0, _, _, _, _, hb, _⟩ := hr
  rcases h.2 with ⟨rfl, _⟩ | ⟨g1, cap, cur, rfl, _, h2, _⟩
  · simp [Value.ownBlock] at hg
  · have e1 : g1 = b := by simpa [Value.ownBlock] using hg
    subst e1
    rw [hb] at h2; cases h2
theorem iter_ne_map {w : World} {b r : Nat} (hb : ∃ es clock, w.heap[b]? = some (.map es clock)) {P : Program} {k : TypeId} {bm m cnt : Nat} {D : DataW Value} {left : Lit → Bool} (hr : w.ranges P k tok bm r m D left cnt) : r ≠ b := by
  intro e
  obtain ⟨es', clock', since, seen, c0, _, _, _, _, hb', _⟩ := hr
  obtain ⟨es, clock, hb⟩ := hb
  subst e
  rw [hb] at hb'; cases hb'
theorem WMem.on {w : World} {b B2 : Nat} {E : EL Unit} {rv nv : Value} {R N : List Int} {wr w' : World} {K : Nat → Prop} (h : WMem w b E rv R B2 nv N wr) (ht : Turned K wr w') (hb : ¬ K b) (hr : ∀ g, rv.ownBlock = some g → ¬ K g) (hn : ∀ g, nv.ownBlock = some g → ¬ K g) (hK : ∀ k, K k → w.heap.size ≤ k) : WMem w b E rv R B2 nv N w' :=
  ⟨MapE.on h.fm ht hb, h.bw, row_turned h.rr ht hr, h.rlt, row_turned h.nr ht hn, h.bel.trans (ht.below h.bel.size hK), h.b1, Nat.le_trans h.b2 ht.size⟩
theorem WMem.below {w : World} {b B2 : Nat} {E : EL Unit} {rv nv : Value} {R N : List Int} {wr w' : World} (h : WMem w b E rv R B2 nv N wr) (hb : Below wr.heap.size wr w') : WMem w b E rv R B2 nv N w' :=
  h.on (K := fun _ => False) (below_any hb) id (fun _ _ => id) (fun _ _ => id) (fun _ h => h.elim)
/-- A step of the range. -/
theorem WMem.iter {w : World} {b B2 r : Nat} {E : EL Unit} {rv nv : Value} {R N : List Int} {wr w' : World} {P : Program} {k : TypeId} {bm m cnt : Nat} {D : DataW Value} {left : Lit → Bool} (h : WMem w b E rv R B2 nv N wr) (hr : wr.ranges P k tok bm r m D left cnt) (hg : wr.grownBy w' (some r)) (hrw : w.heap.size ≤ r) : WMem w b E rv R B2 nv N w' :=
  h.on (K := fun k => k = r) (.of_grown hg (fun k e => by injection e with e; exact e.symm)) (fun e => iter_ne_map h.fm.block hr e.symm) (fun g hg' e => row_iter_ne h.rr hr (by rw [hg', e])) (fun g hg' e => row_iter_ne h.nr hr (by rw [hg', e])) (fun k e => by omega)
/-- One more is found. -/
theorem WMem.add {w : World} {b B2 : Nat} {E : EL Unit} {rv nv : Value} {R N : List Int} {wr w' : World} {x : Int} (h : WMem w b E rv R B2 nv N wr) (hf : FM w' b (putE E x ())) (hg : wr.grownBy w' (some b)) : WMem w b (putE E x ()) rv R B2 nv N w' := by
  have ht : Turned (fun k => k = b) wr w' := .of_grown hg (fun k e => by injection e with e; exact e.symm)
  exact ⟨hf, h.bw, row_turned h.rr ht (fun g hg' e => row_map_ne h.rr h.fm.block (by rw [hg', e])), h.rlt, row_turned h.nr ht (fun g hg' e => row_map_ne h.nr h.fm.block (by rw [hg', e])), h.bel.trans (ht.below h.bel.size (fun k e => by have := h.bw; omega)), h.b1, Nat.le_trans h.b2 ht.size⟩
/-- It is noted for the next round. -/
theorem WMem.push {w : World} {b B2 : Nat} {E : EL Unit} {rv nv nv' : Value} {R N : List Int} {wr w' : World} {x : Int} {o : Obj} (h : WMem w b E rv R B2 nv N wr) (hg : (wr.alloc o).grownBy w' nv.ownBlock) (ho : w'.ownsRow B2 23 1 nv' (N.length + 1) (KA.u32s N ++ [.int .u32 x])) : WMem w b E rv R B2 nv' (N ++ [x]) w' := by
  have h1 := h.below ((Below.refl _ wr).alloc (Nat.le_refl _) o)
  have ht : Turned (fun k => nv.ownBlock = some k) (wr.alloc o) w' := .of_grown hg (fun k e => e)
  refine ⟨MapE.on h1.fm ht (fun e => row_map_ne h1.nr h1.fm.block e), h.bw, row_turned h1.rr ht (fun g hg' e => ?_), h.rlt, ?_, h1.bel.trans (ht.below h1.bel.size (fun k e => by have := (row_lt h1.nr e).1; have := h.b1; omega)), h.b1, Nat.le_trans h1.b2 ht.size⟩
  · have := h.rlt g hg'; have := (row_lt h1.nr e).1; omega
  · rw [List.length_append, KA.u32s_app]
    exact ho
end Go.Proofs.YtafenkepigmcaaaGreatDoor.Gr
/- graph: within, walked. -/
namespace Go.Proofs.YtafenkepigmcaaaGreatDoor.Gr
open Go Go.RowKit YtafenkepigmcaaaGreatDoor.So
structure Set1 (G : GV) (v : Int) (i : Nat) (E : EL Unit) (R : List Int) : Prop where
  he : ∀ x, inE E x ↔ Wi G v i x
  hr : ∀ y ∈ R, Wi G v i y
  hf : ∀ y, Wi G v i y → y ∈ R ∨ ∀ x ∈ adjG G y, Wi G v i x
structure Set2 (G : GV) (v : Int) (i : Nat) (R : List Int) (j : Nat) (E : EL Unit) (N : List Int) : Prop where
  he : ∀ x, inE E x ↔ Wi G v i x ∨ ∃ y ∈ R.take j, x ∈ adjG G y
  hn : ∀ x, inE E x ↔ Wi G v i x ∨ x ∈ N
structure Set3 (G : GV) (v : Int) (i : Nat) (R : List Int) (j : Nat) (ss : List Int) (E : EL Unit) (N : List Int) : Prop where
  he : ∀ x, inE E x ↔ (Wi G v i x ∨ ∃ y ∈ R.take j, x ∈ adjG G y) ∨ x ∈ ss
  hn : ∀ x, inE E x ↔ Wi G v i x ∨ x ∈ N
theorem Set1.two {G : GV} {v : Int} {i : Nat} {E : EL Unit} {R : List Int} (h : Set1 G v i E R) : Set2 G v i R 0 E [] := ⟨fun x => by simp [h.he x], fun x => by simp [h.he x]⟩
theorem Set2.three {G : GV} {v : Int} {i j : Nat} {E : EL Unit} {R N : List Int} (h : Set2 G v i R j E N) : Set3 G v i R j [] E N := ⟨fun x => by simp [h.he x], h.hn⟩
theorem Set3.old {G : GV} {v : Int} {i j : Nat} {E : EL Unit} {R N ss : List Int} {x : Int} (h : Set3 G v i R j ss E N) (hx : inE E x) : Set3 G v i R j (ss ++ [x]) E N := ⟨fun z => by
  rw [List.mem_append, List.mem_singleton]
  constructor
  · intro hz; rcases (h.he z).1 hz with q | q
    · exact .inl q
    · exact .inr (.inl q)
  · rintro (q | q | rfl)
    · exact (h.he z).2 (.inl q)
    · exact (h.he z).2 (.inr q)
    · exact hx, h.hn⟩
theorem Set3.new {G : GV} {v : Int} {i j : Nat} {E : EL Unit} {R N ss : List Int} {x : Int} (hr : RiseE E) (h : Set3 G v i R j ss E N) : Set3 G v i R j (ss ++ [x]) (putE E x ()) (N ++ [x]) := ⟨fun z => by
  rw [inE_put hr, h.he z, List.mem_append, List.mem_singleton, or_assoc], fun z => by
  rw [inE_put hr, h.hn z, List.mem_append, List.mem_singleton, or_assoc]⟩
theorem Set3.end_ {G : GV} {v : Int} {i j : Nat} {E : EL Unit} {R N ss : List Int} {y : Int} (h : Set3 G v i R j ss E N) (hy : R[j]? = some y) (hs : ∀ x, x ∈ ss ↔ x ∈ adjG G y) : Set2 G v i R (j + 1) E N := ⟨fun x => by
  rw [h.he x, List.take_add_one, hy, or_assoc]
  constructor
  · rintro (q | ⟨z, hz, hq⟩ | q)
    · exact .inl q
    · exact .inr ⟨z, List.mem_append_left _ hz, hq⟩
    · exact .inr ⟨y, by simp, (hs x).1 q⟩
  · rintro (q | ⟨z, hz, hq⟩)
    · exact .inl q
    · rcases List.mem_append.1 hz with hz | hz
      · exact .inr (.inl ⟨z, hz, hq⟩)
      · have e : z = y := by simpa using hz
        subst e
        exact .inr (.inr ((hs x).2 hq)), h.hn⟩
theorem Set2.one {G : GV} {v : Int} {i : Nat} {E E0 : EL Unit} {R N : List Int} (h0 : Set1 G v i E0 R) (h : Set2 G v i R R.length E N) : Set1 G v (i + 1) E N := by
  have key : ∀ x, inE E x ↔ Wi G v (i + 1) x := fun x => by
    rw [h.he x, List.take_length]
    constructor
    · rintro (q | ⟨y, hy, hq⟩)
      · exact .inl q
      · exact .inr ⟨y, h0.hr y hy, hq⟩
    · rintro (q | ⟨y, hy, hq⟩)
      · exact .inl q
      · rcases h0.hf y hy with q | q
        · exact .inr ⟨y, q, hq⟩
        · exact .inl (q x hq)
  refine ⟨key, fun y hy => (key y).1 ((h.hn y).2 (.inr hy)), fun y hy => ?_⟩
  rcases (h.hn y).1 ((key y).2 hy) with q | q
  · exact .inr (fun x hx => .inr ⟨y, q, hx⟩)
  · exact .inl q
theorem found_few {w : World} {n g : Nat} {F : Nat → Prop} {G : GV} (h : Gp w n F g G) {E : EL Unit} (hr : RiseE E) (hs : ∀ x, inE E x → (getE G x).isSome = true) : E.length ≤ n := by
  have h1 : (keysE E).length ≤ (keysE G).length := rise_sub (keysE_rise hr) (keysE_rise h.rise) (fun x hx => (mem_keysE h.rise x).2 (hs x ((mem_keysE hr x).1 hx)))
  rw [keysE_len, keysE_len] at h1
  obtain ⟨mp, me, bp, be, h⟩ := h
  have := h.props.size
  rw [mapE_len] at this
  omega
theorem row_lit (w : World) (B : Nat) (x : Int) (hB : B ≤ w.heap.size) : (w.alloc (.cells #[.int .u32 x] 23)).ownsRow B 23 1 (.slice (some ⟨w.heap.size, 0, none⟩) 1 1) 1 (KA.u32s [x]) :=
  ⟨by simp [KA.u32s], .inr ⟨w.heap.size, 1, #[.int .u32 x], rfl, hB, heap_alloc_new w _, Nat.le_refl _, by decide, by simp, by simp [KA.u32s]⟩⟩
theorem gp_key32 {w : World} {n g : Nat} {F : Nat → Prop} {G : GV} (h : Gp w n F g G) {x : Int} (hx : (getE G x).isSome = true) : In32 x := by
  obtain ⟨y, hy⟩ := Option.isSome_iff_exists.1 hx
  obtain ⟨mp, me, bp, be, h⟩ := h
  exact h.props.wf (x, .map (some (bp x))) (List.mem_map.2 ⟨_, mem_of_get hy, rfl⟩)
theorem KeyIs.mem {D0 : DataW Value} {left : Lit → Bool} {ss : List Int} {L : EL Av} (h : KA.KeyIs D0 left ss) (hs : ∀ x ∈ ss, In32 x) (hl : ∀ k, left k = false) (hD : ∀ k, In32 k → Maps.has D0 (.int .u32 k) = (getE L k).isSome) (hr : RiseE L) (hw : ∀ e ∈ L, In32 e.1) : ∀ x, x ∈ ss ↔ x ∈ keysE L := fun x => by
  constructor
  · intro hx
    have h1 := ((h.2 x (hs x hx)).1 hx).1
    rw [hD x (hs x hx)] at h1
    exact (mem_keysE hr x).2 h1
  · intro hx
    obtain ⟨e, he, rfl⟩ := List.mem_map.1 hx
    refine (h.2 _ (hw e he)).2 ⟨?_, hl _⟩
    rw [hD _ (hw e he)]
    exact (mem_keysE hr _).1 hx
set_option maxRecDepth 100000 in
set_option maxHeartbeats 4000000 in
theorem within_any (g n : Nat) (F : Nat → Prop) (G : GV) (v : Int) (K : Nat) (w : World) (h : Gp w n F g G) (hn : n ≤ 100000000000) (hv : (getE G v).isSome = true) (hv32 : In32 v) (hc : Closed G) (hK : K ≤ 1000) :
    Calls Tryz.prog 53 #[.pointer (some ⟨g, 0, none⟩), .int .u32 v, .int .i64 K] w fun e w' => ∃ ao cap ss, e = .returned (.slice ao ss.length cap) ∧ ss.Pairwise (· < ·) ∧ (∀ x, x ∈ ss ↔ Wi G v K x) ∧ w'.ownsRow w.heap.size 23 1 (.slice ao ss.length cap) ss.length (KA.u32s ss) ∧ Below w.heap.size w w' := by
  have hmm := @run_makeMap Tryz.prog
  obtain ⟨b, hb⟩ : ∃ b, w.heap.size = b := ⟨_, rfl⟩
  have fm0 : FM (w.alloc (.map #[] 0)) b [] := hb ▸ MapE.made 23 .u32 (.agg #[]) w
  obtain ⟨w1, hin, fm1, gr1⟩ := fm0.add (x := v) hv32 rfl (by decide)
  have b1 : Below w.heap.size w w1 := ((Below.refl _ w).alloc (Nat.le_refl _) (.map #[] 0)).grown gr1 (by simp) (fun k e => by injection e with e; omega)
  have hbw1 : b < w1.heap.size := fm1.lt
  have hW := row_lit w1 w.heap.size v b1.size
  have HM := Lib.hid (show WMem w b [(v, ())] (.slice (some ⟨w1.heap.size, 0, none⟩) 1 1) [v] (w1.alloc (.cells #[.int .u32 v] 23)).heap.size (.slice none 0 0) [] (w1.alloc (.cells #[.int .u32 v] 23)) from
    ⟨MapE.on (G := fun _ => False) fm1 (below_any ((Below.refl _ w1).alloc (Nat.le_refl _) _)) id, by omega, hW, fun g hg => (row_lt hW hg).2, World.ownsRow_nil _ _ _ _, b1.trans ((Below.refl _ w1).alloc b1.size _ |>.mono (Nat.le_refl _)), by have := b1.size; simp; omega, Nat.le_refl _⟩)
  have HX := Lib.hid (And.intro h (And.intro hn (And.intro hv (And.intro hv32 (And.intro hc hK)))))
  have HS0 := Lib.hid (show Set1 G v 0 [(v, ())] [v] from ⟨fun x => by
      unfold inE Wi
      rw [getE_cons]
      by_cases e : v = x
      · simp [e]
      · rw [if_neg e]; simp [getE]; exact fun q => e q.symm, fun y hy => by simpa [Wi] using hy, fun y hy => .inl (by simpa [Wi] using hy)⟩)
  clear h hn hv hc fm0 fm1 gr1 b1 hbw1 hW
  have hK' : (K : Int) ≤ 1000 := by omega
  have HHb := Lib.hid hb
  clear hK
  go_enter Tryz.func53, Tryz.ntmps53
  go_wp2_with fail
  obtain ⟨Wl, hWl⟩ : ∃ W, w1.alloc (.cells #[.int .u32 v] 23) = W := ⟨_, rfl⟩
  obtain ⟨rv0, hrv0⟩ : ∃ rv0, rv0 = Value.slice (some ⟨w1.heap.size, 0, none⟩) 1 1 := ⟨_, rfl⟩
  rw [hWl] at HM ⊢
  rw [← hrv0] at HM ⊢
  clear hWl hrv0 hin hb
  go_loopw [8, 22] (fun rv u wr => ∃ (i : Nat) (E : EL Unit) (R : List Int), u = .int .i64 i ∧ i ≤ K ∧ Hid (WMem w b E rv R wr.heap.size (.slice none 0 0) [] wr ∧ Set1 G v i E R ∧ R.length ≤ E.length)) (fun _ u _ => K + 1 - (intOf u).toNat)
  case atStart => exact ⟨0, _, _, rfl, Nat.zero_le _, Lib.hid ⟨HM.out, HS0.out, Nat.le_refl _⟩⟩
  case round =>
    obtain ⟨i, E, R, rfl, hi, HI⟩ := hrel
    by_cases hiK : i < K
    · obtain ⟨ar, cr, rfl⟩ := row_slice HI.out.1.rr
      obtain ⟨nR, hnR⟩ : ∃ nR, R.length = nR := ⟨_, rfl⟩
      have HI2 := Lib.hid (show WMem w b E (.slice ar nR cr) R wr.heap.size (.slice none 0 0) [] wr ∧ Set1 G v i E R ∧ R.length ≤ E.length from ⟨by have := HI.out.1; rwa [hnR] at this, HI.out.2⟩)
      rw [hnR]
      have HNR := Lib.hid hnR
      have hi1 : i + 1 ≤ K := hiK
      obtain ⟨B2, hB2⟩ : ∃ B2, wr.heap.size = B2 := ⟨_, rfl⟩
      rw [hB2] at HI2
      obtain ⟨wo, hwo⟩ : ∃ wo, wr = wo := ⟨_, rfl⟩
      rw [hwo] at HI2
      clear hnR HI hi
      go_wp2_with fail
      clear hwo hB2
      have hnRb : (nR : Int) ≤ 100000000000 := by
        have h1 : R.length ≤ n := Nat.le_trans HI2.out.2.2 (found_few HX.out.1 HI2.out.1.fm.rise (fun x hx => Wi.there HX.out.2.2.1 HX.out.2.2.2.2.1 _ x ((HI2.out.2.1.he x).1 hx)))
        have := HNR.out; have := HX.out.2.1; omega
      go_loopw [9, 26] (fun nv u wr => ∃ (j : Nat) (E2 : EL Unit) (N : List Int), u = .int .i64 j ∧ j ≤ nR ∧ Hid (WMem w b E2 (.slice ar nR cr) R B2 nv N wr ∧ Set2 G v i R j E2 N ∧ E.length + N.length = E2.length)) (fun _ u _ => nR + 1 - (intOf u).toNat)
      case atStart => exact ⟨0, E, [], rfl, Nat.zero_le _, Lib.hid ⟨HI2.out.1, HI2.out.2.1.two, rfl⟩⟩
      case round =>
        obtain ⟨j, E2, N, rfl, hj, HJ⟩ := hrel
        by_cases hjn : j < nR
        · obtain ⟨near, hnear⟩ : ∃ x, R[j]? = some x := ⟨_, List.getElem?_eq_getElem (by have := HNR.out; omega)⟩
          obtain ⟨gr, hgr, hgr1, hgr2, hrc⟩ := row_cell (by have := HI2.out.1.rr; rwa [HNR.out] at this) (show (KA.u32s R)[j]? = some (.int .u32 near) by simp [KA.u32s, hnear])
          subst hgr
          have hrc2 : wr.cell? ⟨gr, j, none⟩ = some (.int .u32 near) := by
            obtain ⟨g', e', _, _, hh⟩ := row_cell (by have := HJ.out.1.rr; rwa [HNR.out] at this) (show (KA.u32s R)[j]? = some (.int .u32 near) by simp [KA.u32s, hnear])
            cases e'
            exact hh
          have hth := Wi.there HX.out.2.2.1 HX.out.2.2.2.2.1 i near (HI2.out.2.1.hr near (List.mem_of_getElem? hnear))
          have h32 := gp_key32 HX.out.1 hth
          obtain ⟨⟨PN, L⟩, hL⟩ := Option.isSome_iff_exists.1 hth
          obtain ⟨mp, me, bp, be, hG⟩ := HX.out.1.below HJ.out.1.bel
          have c1 := hG.cells.2
          have l1 := hG.lookH hL h32
          have hM := (hG.mine _ (mem_of_get hL)).2
          obtain ⟨D, hD, hD2, hD3⟩ := hM.1.own
          have hDk : ∀ k, In32 k → Maps.has D (.int .u32 k) = (getE L k).isSome := fun k hk => by rw [(hD2 k hk).2, isSome_vals]
          have HL := Lib.hid (show getE G near = some (PN, L) ∧ (∀ k, In32 k → Maps.has D (.int .u32 k) = (getE L k).isSome) ∧ RiseE L ∧ (∀ e ∈ L, In32 e.1) from ⟨hL, hDk, rise_vals hM.1, fun e he => wf_vals hM.1 he⟩)
          have hbeF : be near < w.heap.size := gp_lt HX.out.1 _ (hG.fb _ (mem_of_get hL)).2
          have HBE := Lib.hid hbeF
          have HJ4 := Lib.hid HJ.out
          have HNe := Lib.hid (And.intro hnear h32)
          clear hgr1 hgr2 hrc hth hG hM hD2 hD3 hDk hnear HJ hj hbeF
          go_wp2_with (at_range; refine wpList_range_own _ rfl _ 131 rfl 23 47 KA.law23 Tryz.underlying131 tok (be near) n D rfl hD ?_; intro w3 hrg hg hs)
          obtain ⟨r, hr⟩ : ∃ r, wr.heap.size = r := ⟨_, rfl⟩
          rw [hr] at hrg hs ⊢
          have hrw : w.heap.size ≤ r := by have := HJ4.out.1.bel.size; omega
          have hm3 := HJ4.out.1.on (K := fun _ => False) (.of_grown hg (fun k e => by cases e)) id (fun _ _ => id) (fun _ _ => id) (fun _ h => h.elim)
          have HM3 := Lib.hid (show WMem w b E2 (.slice (some ⟨gr, 0, none⟩) nR cr) R B2 u9 N w3 ∧ Set3 G v i R j [] E2 N ∧ E.length + N.length = E2.length from ⟨hm3, HJ4.out.2.1.three, HJ4.out.2.2⟩)
          have HRr := Lib.hid (And.intro hrw hr)
          have hj1 : j + 1 ≤ nR := hjn
          clear hm3 hg hs hD hrw hr hL c1 l1 hrc2 hjn
          go_loopw [9] (fun nv wr => ∃ (left : Lit → Bool) (cn : Nat) (ss : List Int) (E3 : EL Unit) (N3 : List Int), wr.ranges Tryz.prog 23 tok (be near) r n D left cn ∧ Hid (KA.KeyIs D left ss ∧ (∀ x ∈ ss, In32 x)) ∧ Hid (WMem w b E3 (.slice (some ⟨gr, 0, none⟩) nR cr) R B2 nv N3 wr ∧ Set3 G v i R j ss E3 N3 ∧ E.length + N3.length = E3.length))
            (fun _ wr => wr.rangeLeft (be near) r)
          case atStart => exact ⟨_, _, [], E2, N, hrg, Lib.hid ⟨KA.KeyIs.start D, by simp⟩, HM3⟩
          case round =>
            obtain ⟨left, cn, ss, E3, N3, hrg2, HC, HM⟩ := hrel
            clear hrg HM3
            go_wp2_with (at_next; refine wpList_next_ranges _ rfl _ rfl 23 KA.law23 tok (Value.int .u32) id (fun key kl hk => by obtain ⟨x, hx, _⟩ := Maps.keyOf_int_inv Tryz.underlying23 hk; exact ⟨x, hx⟩) (fun v _ _ => ⟨v, rfl⟩) (be near) r n _ _ _ rfl hrg2 ?_ ?_)
            · intro hc0 hl0
              have hss := KeyIs.mem HC.out.1 HC.out.2 hl0 HL.out.2.1 HL.out.2.2.1 HL.out.2.2.2
              have hadj : adjG G near = keysE L := by unfold adjG; rw [hG_some HL.out.1]
              have hs2 := HM.out.2.1.end_ HNe.out.1 (fun x => by rw [hss x, hadj])
              have HE2 := Lib.hid (And.intro HM.out.1 (And.intro hs2 HM.out.2.2))
              clear hss hadj hs2 HM HC hrg2 hc0 hl0
              go_wp2_with fail
              go_roundw
              case rel => exact ⟨j + 1, E3, N3, by go_num, hj1, HE2⟩
              case measure => simp [intOf] <;> omega
            · intro x c kl yd yp w4 cn2 hkey hlk hv' hat hrg3 hlt hg2 hs2 hen
              obtain ⟨x', ex, rfl, hwx⟩ := Maps.keyOf_int_inv Tryz.underlying23 hkey
              obtain rfl : x = x' := by injection ex
              have hh : Maps.has D (.int .u32 x) = true := by
                cases hq : Maps.has D (.int .u32 x) with
                | true => rfl
                | false =>
                  have h1 := hat (.held undef)
                  have h2 := hat (.lit (.bool true))
                  rw [KA.not_has_at D hq] at h1 h2
                  rw [← h1] at h2
                  cases h2
              have hm4 := HM.out.1.iter hrg2 hg2 HRr.out.1
              have HC2 := Lib.hid (And.intro (HC.out.1.step hwx hlk hh) (show ∀ y ∈ ss ++ [x], In32 y from fun y hy => by rw [List.mem_append, List.mem_singleton] at hy; rcases hy with hy | rfl; (exact HC.out.2 y hy); (exact hwx)))
              have HLt := Lib.hid (show cn2 < wr.rangeLeft (be near) r by rw [hrg2.left_eq]; exact hlt)
              have hxc : x ∈ adjG G near := by
                unfold adjG
                rw [hG_some HL.out.1]
                refine (mem_keysE HL.out.2.2.1 x).2 ?_
                rw [← HL.out.2.1 x hwx]; exact hh
              have HM4 := Lib.hid (And.intro hm4 (And.intro HM.out.2 (And.intro hrg3 (And.intro hwx hxc))))
              have hlk2 := hm4.fm.look hwx
              clear hm4 hrg3 hg2 hs2 hh hxc hat hv' hlk hkey hlt hrg2 HC ex HM
              cases hq : getE E3 x with
              | some u =>
                rw [hq] at hlk2
                have hin : inE E3 x := by unfold inE; rw [hq]; rfl
                have hm5 := HM4.out.1.below ((Below.refl _ w4).alloc (Nat.le_refl _) (.cells #[] 161))
                have HE5 := Lib.hid (And.intro hm5 (And.intro (HM4.out.2.1.1.old hin) HM4.out.2.1.2))
                have HR5 := Lib.hid (HM4.out.2.2.1.alloc (.cells #[] 161))
                clear hin hm5 hq
                go_wp2_with fail
                exact ⟨⟨_, cn2, ss ++ [x], E3, N3, HR5.out, HC2, HE5⟩, by rw [HR5.out.left_eq]; exact HLt.out⟩
              | none =>
                rw [hq] at hlk2
                obtain ⟨an, cn3, rfl⟩ := row_slice HM4.out.1.nr
                have hel : E3.length ≤ n := found_few HX.out.1 HM4.out.1.fm.rise (fun y hy => by
                  rcases (HM4.out.2.1.1.he y).1 hy with (q | ⟨z, _, q⟩) | q
                  · exact Wi.there HX.out.2.2.1 HX.out.2.2.2.2.1 i y q
                  · exact HX.out.2.2.2.2.1 z y q
                  · refine HX.out.2.2.2.2.1 near y ?_
                    have h32y := HC2.out.2 y (List.mem_append_left _ q)
                    have h1 := ((HC2.out.1.2 y h32y).1 (List.mem_append_left _ q)).1
                    rw [HL.out.2.1 y h32y] at h1
                    unfold adjG
                    rw [hG_some HL.out.1]
                    exact (mem_keysE HL.out.2.2.1 y).2 h1)
                have hnl3 : N3.length ≤ 100000000000 := by have := HM4.out.2.1.2; have := HX.out.2.1; omega
                have hm5 := HM4.out.1.below ((Below.refl _ w4).alloc (Nat.le_refl _) (.cells #[] 161))
                obtain ⟨w6, hup, hf6, hg6⟩ := hm5.fm.add HM4.out.2.2.2.1 hq (by have := HX.out.2.1; unfold maxLen; omega)
                have hm6 := hm5.add hf6 hg6
                have hr6 := (HM4.out.2.2.1.alloc (.cells #[] 161)).kept hg6 (fun e => by have := HBE.out; have := HM4.out.1.bw; have := Option.some.inj e; omega) (fun e => iter_ne_map hm5.fm.block (HM4.out.2.2.1.alloc (.cells #[] 161)) (Option.some.inj e))
                obtain ⟨nN, hnN⟩ : ∃ nN, N3.length = nN := ⟨_, rfl⟩
                have HM6 := Lib.hid (And.intro hm6 hr6)
                have HRow := Lib.hid (show w6.ownsRow B2 23 1 (.slice an nN cn3) nN (KA.u32s N3) from by have := hm6.nr; rwa [hnN] at this)
                have HSt := Lib.hid (And.intro (HM4.out.2.1.1.new HM4.out.1.fm.rise (x := x)) (And.intro HM4.out.2.1.2 (And.intro hm5.fm.rise hq)))
                have hB6 : B2 ≤ w6.heap.size := hm6.b2
                obtain ⟨i0, hi0, hz0, hz1, hz2⟩ := KA.info_parts KA.info23
                have HII := Lib.hid (And.intro hi0 (And.intro hz0 (And.intro hz1 hz2)))
                rw [hnN] at hnl3 ⊢
                have HNN := Lib.hid hnN
                clear hel hm5 hf6 hg6 hm6 hr6 hnN hi0 hz0 hz1 hz2 hq
                go_wp2_with (at_builtin; refine wpList_append_lies _ rfl (.tmp 52) (.tmp 54) 37 rfl B2 23 i0 _ 1 4 Tryz.underlying37 HII.out.1 HII.out.2.1 HII.out.2.2.1 HII.out.2.2.2 rfl (by decide) (.slice an nN cn3) nN (KA.u32s N3) rfl (HRow.out.alloc _) ⟨w6.heap.size, 0, none⟩ 1 1 [.int .u32 x] rfl (by first | rfl | simp) (KA.new1 x w6 23) (KA.one_u32 x) (by decide) (by unfold maxLen; omega) (by omega) (by simp; omega) (w6.heap.size + 1) (by simp) ?_; intro g7 cap7 w7 hown7 hgrow7 _ _; have H7 := Lib.hid (And.intro hown7 hgrow7); clear hown7 hgrow7)
                have hm7 := HM6.out.1.push (nv' := .slice (some ⟨g7, 0, none⟩) (nN + 1) cap7) (x := x) (w' := w7) (by rw [HNN.out]; exact H7.out.2) (by rw [HNN.out]; exact H7.out.1)
                have hr7 := (HM6.out.2.alloc (.cells #[.int .u32 x] 23)).kept H7.out.2 (fun e => row_map_ne (HRow.out.alloc (.cells #[.int .u32 x] 23)) (by obtain ⟨es, clock, hb, _⟩ := (HM6.out.2.alloc (.cells #[.int .u32 x] 23)).owns; exact ⟨es, clock, hb⟩) e.symm) (fun e => row_iter_ne (HRow.out.alloc (.cells #[.int .u32 x] 23)) (HM6.out.2.alloc (.cells #[.int .u32 x] 23)) e.symm)
                have hlen : E.length + (N3 ++ [x]).length = (putE E3 x ()).length := by
                  rw [putE_len E3 x () HSt.out.2.2.1, HSt.out.2.2.2, List.length_append]
                  have := HSt.out.2.1
                  simp only [List.length_singleton, Option.isSome_none, Bool.false_eq_true, if_false]
                  omega
                exact ⟨⟨_, cn2, ss ++ [x], putE E3 x (), N3 ++ [x], hr7, HC2, Lib.hid ⟨hm7, HSt.out.1, hlen⟩⟩, by rw [hr7.left_eq]; exact HLt.out⟩
        · have hjE : nR = j := by omega
          subst hjE
          have hs1 := Set2.one HI2.out.2.1 (by have := HJ.out.2.1; rw [← HNR.out] at this; exact this)
          obtain ⟨an, cn, rfl⟩ := row_slice HJ.out.1.nr
          have hl1 : N.length ≤ E2.length := by have := HJ.out.2.2; omega
          have HJ3 := Lib.hid (And.intro HJ.out.1 (And.intro hs1 hl1))
          clear hs1 hl1 HJ hj hjn
          go_wp2_with fail
          go_roundw
          case rel => exact ⟨i + 1, E2, N, by go_num, hi1, Lib.hid ⟨⟨HJ3.out.1.fm, HJ3.out.1.bw, row_base HJ3.out.1.nr HJ3.out.1.b1, fun g hg => (row_lt HJ3.out.1.nr hg).2, World.ownsRow_nil _ _ _ _, HJ3.out.1.bel, HJ3.out.1.bel.size, Nat.le_refl _⟩, HJ3.out.2⟩⟩
          case measure => simp [intOf] <;> omega
    · have hiE : K = i := by omega
      subst hiE
      have hre := HI.out.1.fm.rise
      have HS9 := Lib.hid (keysC wr.heap.size b E.length (.agg #[]) (fVals E) (wr.alloc (.cells #[.map (some b)] 162)) (by simp) (by simp) (MapE.on (G := fun _ => False) HI.out.1.fm (below_any ((Below.refl _ wr).alloc (Nat.le_refl _) _)) id) (Nat.le_trans (found_few HX.out.1 hre (fun x hx => Wi.there HX.out.2.2.1 HX.out.2.2.2.2.1 _ x ((HI.out.2.1.he x).1 hx))) (by have := HX.out.2.1; omega)))
      have HEn := Lib.hid (And.intro HI.out.1.bel (And.intro HI.out.2.1.he hre))
      have hfl : (fVals E).length = E.length := mapE_len _ _
      have hfk : keysE (fVals E) = keysE E := by unfold keysE fVals mapE; rw [List.map_map]; rfl
      rw [hfl, hfk] at HS9
      clear hre HI hi hiK hfl hfk
      go_wp2_with fail
      refine (KC.keys_any b wr).mono ?_
      rintro e w8 ⟨rfl, rfl⟩
      go_wp2_with fail
      refine HS9.out.mono ?_
      rintro e w9 ⟨ao, cap, rfl, ho, hb9⟩
      have H9 := Lib.hid (And.intro ho hb9)
      clear ho hb9
      go_wp2_with fail
      go_ret
      have hb9 : Below w.heap.size w w9 := (HEn.out.1.alloc HEn.out.1.size _).trans (H9.out.2.mono (by have := HEn.out.1.size; simp; omega))
      refine ⟨ao, cap, keysE E, by rw [keysE_len]; rfl, keysE_rise HEn.out.2.2, fun x => (mem_keysE HEn.out.2.2 x).trans (HEn.out.2.1 x), ?_, hb9⟩
      have := H9.out.1
      rw [keysE_len]
      exact row_base this (by have := HEn.out.1.size; simp; omega)
end Go.Proofs.YtafenkepigmcaaaGreatDoor.Gr
