/- commit: what else lies beside two books; a script's calls; play, of one of them. -/
import Derived.Test.YtklalpamcfkngaaG3
namespace Go.Proofs.Ytklalpamcfkngaa.Cm
open Go Go.RowKit
def X0 (G : Nat → Prop) (_ : World) : Prop := ∀ k, ¬ G k
theorem ext_x0 : Ext X0 := ⟨fun h _ _ => h, fun h hk => absurd hk (h _)⟩
/-- A block, and what else there is. -/
def XA (b : Nat) (o : Obj) (X : (Nat → Prop) → World → Prop) (G : Nat → Prop) (w : World) : Prop := ∃ H, X H w ∧ ¬ H b ∧ w.heap[b]? = some o ∧ ∀ k, G k ↔ (k = b ∨ H k)
theorem ext_xa {b : Nat} {o : Obj} {X : (Nat → Prop) → World → Prop} (hX : Ext X) : Ext (XA b o X) where
  on := by
    rintro G H' w w' ⟨H, h1, h2, h3, h4⟩ ht hG
    exact ⟨H, hX.on h1 ht (fun k hk => hG k ((h4 k).2 (.inr hk))), h2, (ht.block b (Array.getElem?_eq_some_iff.1 h3).1 (hG b ((h4 b).2 (.inl rfl)))).trans h3, h4⟩
  hi := by
    rintro G w k ⟨H, h1, h2, h3, h4⟩ hk
    rcases (h4 k).1 hk with rfl | hk
    · exact (Array.getElem?_eq_some_iff.1 h3).1
    · exact hX.hi h1 hk
/-- Two books, and what else there is. -/
def PX (X : (Nat → Prop) → World → Prop) (w0 : World) (n p q : Nat) (RM : TK → Option RunM) (T : TK → Option Int) (G : Nat → Prop) (w : World) : Prop :=
  ∃ F1 F2 H S TT, Bk w w0.heap.size n F1 p RM T ∧ Rf w w0.heap.size F2 q S TT ∧ SSd n RM T S TT ∧ X H w ∧ (∀ k, F1 k → ¬ F2 k ∧ ¬ H k) ∧ (∀ k, F2 k → ¬ H k) ∧ ∀ k, G k ↔ (F1 k ∨ F2 k ∨ H k)
section
variable {X : (Nat → Prop) → World → Prop} {w0 w w' : World} {n m p q n' p' q' : Nat} {RM RM' : TK → Option RunM} {T T' : TK → Option Int} {Y : Nat → Prop}
theorem ext_px (hX : Ext X) : Ext (PX X w0 n p q RM T) where
  on := by
    rintro G H' w w' ⟨F1, F2, H, S, TT, h1, h2, h3, h4, h5, h6, h7⟩ ht hG
    exact ⟨F1, F2, H, S, TT, h1.on ht (fun k hk => hG k ((h7 k).2 (.inl hk))), h2.on ht (fun k hk => hG k ((h7 k).2 (.inr (.inl hk)))), h3, hX.on h4 ht (fun k hk => hG k ((h7 k).2 (.inr (.inr hk)))), h5, h6, h7⟩
  hi := by
    rintro G w k ⟨F1, F2, H, S, TT, h1, h2, h3, h4, h5, h6, h7⟩ hk
    rcases (h7 k).1 hk with hk | hk | hk
    · exact (bk_hi h1).2.1 k hk
    · exact (rf_hi h2).2.1 k hk
    · exact hX.hi h4 hk
theorem pair_nil (h : Pair X w0 n p q RM T Y w) : Nil0 w0 (PX X w0 n p q RM T) Y w := by
  obtain ⟨F1, F2, G, S, TT, h1, h2, h3, h4, h5, h6, h7, h8⟩ := h
  refine ⟨fun k => F1 k ∨ F2 k ∨ G k, ⟨F1, F2, G, S, TT, h1, h2, h3, h4, h6, h7, fun _ => Iff.rfl⟩, h5, fun k hk => ⟨?_, (h8 k hk).2.2⟩⟩
  rintro (e | e | e)
  · exact (h8 k hk).1.1 e
  · exact (h8 k hk).1.2 e
  · exact (h8 k hk).2.1 e
theorem nil_pair (h : Nil0 w0 (PX X w0 n p q RM T) Y w) : Pair X w0 n p q RM T Y w := by
  obtain ⟨G, ⟨F1, F2, H, S, TT, h1, h2, h3, h4, h6, h7, h9⟩, h5, h8⟩ := h
  exact ⟨F1, F2, H, S, TT, h1, h2, h3, h4, h5, h6, h7, fun k hk => ⟨⟨fun e => (h8 k hk).1 ((h9 k).2 (.inl e)), fun e => (h8 k hk).1 ((h9 k).2 (.inr (.inl e)))⟩, fun e => (h8 k hk).1 ((h9 k).2 (.inr (.inr e))), (h8 k hk).2⟩⟩
theorem pair_swap (h : Pair (PX X w0 n' p' q' RM' T') w0 n p q RM T Y w) : Pair (PX X w0 n p q RM T) w0 n' p' q' RM' T' Y w := by
  obtain ⟨F1, F2, G, S, TT, h1, h2, h3, ⟨A1, A2, H, S2, T2, k1, k2, k3, k4, k5, k6, k7⟩, h5, h6, h7, h8⟩ := h
  refine ⟨A1, A2, fun k => F1 k ∨ F2 k ∨ H k, S2, T2, k1, k2, k3, ⟨F1, F2, H, S, TT, h1, h2, h3, k4, fun k hk => ⟨(h6 k hk).1, fun e => (h6 k hk).2 ((k7 k).2 (.inr (.inr e)))⟩, fun k hk e => h7 k hk ((k7 k).2 (.inr (.inr e))), fun _ => Iff.rfl⟩, h5, fun k hk => ⟨(k5 k hk).1, ?_⟩, fun k hk => ?_, fun k hk => ⟨⟨fun e => (h8 k hk).2.1 ((k7 k).2 (.inl e)), fun e => (h8 k hk).2.1 ((k7 k).2 (.inr (.inl e)))⟩, ?_, (h8 k hk).2.2⟩⟩
  · rintro (e | e | e)
    · exact (h6 k e).2 ((k7 k).2 (.inl hk))
    · exact h7 k e ((k7 k).2 (.inl hk))
    · exact (k5 k hk).2 e
  · rintro (e | e | e)
    · exact (h6 k e).2 ((k7 k).2 (.inr (.inl hk)))
    · exact h7 k e ((k7 k).2 (.inr (.inl hk)))
    · exact k6 k hk e
  · rintro (e | e | e)
    · exact (h8 k hk).1.1 e
    · exact (h8 k hk).1.2 e
    · exact (h8 k hk).2.1 ((k7 k).2 (.inr (.inr e)))
theorem pair_in {b : Nat} {o : Obj} (h : Pair X w0 n p q RM T Y w) (hb : w.heap[b]? = some o) (hY : Y b) : Pair (XA b o X) w0 n p q RM T (fun _ => False) w := by
  obtain ⟨F1, F2, G, S, TT, h1, h2, h3, h4, h5, h6, h7, h8⟩ := h
  have hy := h8 b hY
  refine ⟨F1, F2, fun k => k = b ∨ G k, S, TT, h1, h2, h3, ⟨G, h4, hy.2.1, hb, fun _ => Iff.rfl⟩, h5, fun k hk => ⟨(h6 k hk).1, ?_⟩, fun k hk => ?_, fun k hk => hk.elim⟩
  · rintro (rfl | e)
    · exact hy.1.1 hk
    · exact (h6 k hk).2 e
  · rintro (rfl | e)
    · exact hy.1.2 hk
    · exact h7 k hk e
theorem pair_out {b : Nat} {o : Obj} (h : Pair (XA b o X) w0 n p q RM T Y w) : Pair X w0 n p q RM T Y w := by
  obtain ⟨F1, F2, G, S, TT, h1, h2, h3, ⟨H, k1, k2, k3, k4⟩, h5, h6, h7, h8⟩ := h
  exact ⟨F1, F2, H, S, TT, h1, h2, h3, k1, h5, fun k hk => ⟨(h6 k hk).1, fun e => (h6 k hk).2 ((k4 k).2 (.inr e))⟩, fun k hk e => h7 k hk ((k4 k).2 (.inr e)), fun k hk => ⟨(h8 k hk).1, fun e => (h8 k hk).2.1 ((k4 k).2 (.inr e)), (h8 k hk).2.2⟩⟩
theorem pair_has {b : Nat} {o : Obj} (h : Pair (XA b o X) w0 n p q RM T Y w) : w.heap[b]? = some o := by
  obtain ⟨F1, F2, G, S, TT, h1, h2, h3, ⟨H, k1, k2, k3, k4⟩, _⟩ := h
  exact k3
theorem pair_in2 {b : Nat} {o : Obj} (h : Pair (PX X w0 n' p' q' RM' T') w0 n p q RM T Y w) (hb : w.heap[b]? = some o) (hY : Y b) : Pair (PX (XA b o X) w0 n' p' q' RM' T') w0 n p q RM T (fun _ => False) w := by
  obtain ⟨F1, F2, G, S, TT, h1, h2, h3, ⟨A1, A2, H, S2, T2, k1, k2, k3, k4, k5, k6, k7⟩, h5, h6, h7, h8⟩ := h
  have hy := h8 b hY
  have n1 : ¬ A1 b := fun e => hy.2.1 ((k7 b).2 (.inl e))
  have n2 : ¬ A2 b := fun e => hy.2.1 ((k7 b).2 (.inr (.inl e)))
  have n3 : ¬ H b := fun e => hy.2.1 ((k7 b).2 (.inr (.inr e)))
  refine ⟨F1, F2, fun k => k = b ∨ G k, S, TT, h1, h2, h3, ⟨A1, A2, fun k => k = b ∨ H k, S2, T2, k1, k2, k3, ⟨H, k4, n3, hb, fun _ => Iff.rfl⟩, fun k hk => ⟨(k5 k hk).1, ?_⟩, fun k hk => ?_, fun k => ?_⟩, h5, fun k hk => ⟨(h6 k hk).1, ?_⟩, fun k hk => ?_, fun k hk => hk.elim⟩
  · rintro (rfl | e)
    · exact n1 hk
    · exact (k5 k hk).2 e
  · rintro (rfl | e)
    · exact n2 hk
    · exact k6 k hk e
  · show (k = b ∨ G k) ↔ (A1 k ∨ A2 k ∨ (k = b ∨ H k))
    rw [k7 k]
    constructor
    · rintro (e | e | e | e)
      · exact .inr (.inr (.inl e))
      · exact .inl e
      · exact .inr (.inl e)
      · exact .inr (.inr (.inr e))
    · rintro (e | e | e | e)
      · exact .inr (.inl e)
      · exact .inr (.inr (.inl e))
      · exact .inl e
      · exact .inr (.inr (.inr e))
  · rintro (rfl | e)
    · exact hy.1.1 hk
    · exact (h6 k hk).2 e
  · rintro (rfl | e)
    · exact hy.1.2 hk
    · exact h7 k hk e
theorem pair_out2 {b : Nat} {o : Obj} (h : Pair (PX (XA b o X) w0 n' p' q' RM' T') w0 n p q RM T Y w) : Pair (PX X w0 n' p' q' RM' T') w0 n p q RM T Y w := by
  obtain ⟨F1, F2, G, S, TT, h1, h2, h3, ⟨A1, A2, H, S2, T2, k1, k2, k3, ⟨J, j1, j2, j3, j4⟩, k5, k6, k7⟩, h5, h6, h7, h8⟩ := h
  have hG : ∀ k, (A1 k ∨ A2 k ∨ J k) → G k := by
    rintro k (e | e | e)
    · exact (k7 k).2 (.inl e)
    · exact (k7 k).2 (.inr (.inl e))
    · exact (k7 k).2 (.inr (.inr ((j4 k).2 (.inr e))))
  exact ⟨F1, F2, fun k => A1 k ∨ A2 k ∨ J k, S, TT, h1, h2, h3, ⟨A1, A2, J, S2, T2, k1, k2, k3, j1, fun k hk => ⟨(k5 k hk).1, fun e => (k5 k hk).2 ((j4 k).2 (.inr e))⟩, fun k hk e => k6 k hk ((j4 k).2 (.inr e)), fun _ => Iff.rfl⟩, h5, fun k hk => ⟨(h6 k hk).1, fun e => (h6 k hk).2 (hG k e)⟩, fun k hk e => h7 k hk (hG k e), fun k hk => ⟨(h8 k hk).1, fun e => (h8 k hk).2.1 (hG k e), (h8 k hk).2.2⟩⟩
theorem pair_has2 {b : Nat} {o : Obj} (h : Pair (PX (XA b o X) w0 n' p' q' RM' T') w0 n p q RM T Y w) : w.heap[b]? = some o := by
  obtain ⟨F1, F2, G, S, TT, h1, h2, h3, ⟨A1, A2, H, S2, T2, k1, k2, k3, ⟨J, j1, j2, j3, j4⟩, k5, k6, k7⟩, _⟩ := h
  exact j3
theorem pair_bk (h : Pair X w0 n p q RM T Y w) : ∃ F, Bk w w0.heap.size n F p RM T := by
  obtain ⟨F1, F2, G, S, TT, h1, _⟩ := h
  exact ⟨F1, h1⟩
theorem pair_ahead (h : Pair X w0 n p q RM T Y w) : Below w0.heap.size w0 w := by
  obtain ⟨F1, F2, G, S, TT, h1, h2, h3, h4, h5, _⟩ := h
  exact h5
theorem pair_below (hX : Ext X) (h : Pair X w0 n p q RM T Y w) (hb : Below w.heap.size w w') : Pair X w0 n p q RM T Y w' := (two_abs hX).below h hb
theorem pair_mono (h : Pair X w0 n p q RM T Y w) (hn : n ≤ m) : Pair X w0 m p q RM T Y w := by
  obtain ⟨F1, F2, G, S, TT, h1, h2, ⟨b1, b2, b3, b4, b5, b6⟩, h4⟩ := h
  exact ⟨F1, F2, G, S, TT, h1.mono hn, h2, ⟨b1, b2, b3, b4, by omega, by omega⟩, h4⟩
/-- A block that is laid now is none of theirs. -/
theorem pair_box (hX : Ext X) (h : Pair X w0 n p q RM T (fun _ => False) w) (c : Array Value) (ty : TypeId) : Pair (XA w.heap.size (.cells c ty (0, 0)) X) w0 n p q RM T (fun _ => False) (w.alloc (.cells c ty)) :=
  pair_in ((two_abs hX).more h ((Below.refl _ w).alloc (Nat.le_refl _) _)) (heap_alloc_new w (.cells c ty)) (.inr ⟨Nat.le_refl _, by simp⟩)
theorem pair_box2 (hX : Ext X) (h : Pair (PX X w0 n' p' q' RM' T') w0 n p q RM T (fun _ => False) w) (c : Array Value) (ty : TypeId) : Pair (PX (XA w.heap.size (.cells c ty (0, 0)) X) w0 n' p' q' RM' T') w0 n p q RM T (fun _ => False) (w.alloc (.cells c ty)) :=
  pair_in2 ((two_abs (ext_px hX)).more h ((Below.refl _ w).alloc (Nat.le_refl _) _)) (heap_alloc_new w (.cells c ty)) (.inr ⟨Nat.le_refl _, by simp⟩)
end
theorem refat_empty {w : World} {B q : Nat} (h : w.heap[q]? = some (.cells #[.slice none 0 0, .slice none 0 0] 30 (0, 0))) (hB : B ≤ q) : Rf w B (fun k => k = q) q [] [] := by
  have hq := (Array.getElem?_eq_some_iff.1 h).1
  have hr : RefAt w B (fun k => k = q) q (.slice none 0 0) (.slice none 0 0) [] [] := {
    cell := h
    rrow := World.ownsRow_nil _ _ _ _
    trow := World.ownsRow_nil _ _ _ _
    nodes := fun c hc => by cases hc
    yes := fun c hc => by cases hc
    did := fun c hc => by cases hc
    dist := List.nodup_nil
    pos := fun c hc => by cases hc
    keys := List.nodup_nil
    tkeys := List.nodup_nil
    wf := ⟨fun c hc => (by cases hc), fun c hc => (by cases hc)⟩
    base := by omega
    fq := rfl
    fr := fun g e => by cases e
    ft := fun g e => by cases e
    hi := fun k hk => by subst hk; exact hq
    low := fun k hk => by subst hk; exact hB }
  exact ⟨_, _, [], hr, rfl⟩
/-- Two books that hold nothing. -/
theorem pair_new {X : (Nat → Prop) → World → Prop} {w0 w2 : World} {p : Nat} {F G : Nat → Prop} (hX : Ext X) (hb0 : Below w0.heap.size w0 w2) (h : Bk w2 w0.heap.size 0 F p (fun _ => none) (fun _ => none)) (hx : X G w2) (hd : ∀ k, F k → ¬ G k) :
    Pair X w0 0 p w2.heap.size (fun _ => none) (fun _ => none) (fun _ => False) (w2.alloc (.cells #[.slice none 0 0, .slice none 0 0] 30)) := by
  have ba : Below w2.heap.size w2 (w2.alloc (.cells #[.slice none 0 0, .slice none 0 0] 30)) := (Below.refl _ w2).alloc (Nat.le_refl _) _
  refine ⟨F, fun k => k = w2.heap.size, G, [], [], h.below ba, refat_empty (heap_alloc_new w2 _) hb0.size, ⟨rfl, rfl, fun e he => (by cases he), ⟨List.Pairwise.nil, fun e he => (by cases he), fun e he => (by cases he)⟩, Nat.le_refl _, Nat.le_refl _⟩, hX.on hx (H := fun _ => False) (below_any ba) (fun _ _ => id), hb0.trans (ba.mono hb0.size), fun k hk => ⟨fun e => ?_, hd k hk⟩, fun k hk e => ?_, fun k hk => hk.elim⟩
  · have := (bk_hi h).2.1 k hk; omega
  · have := hX.hi hx e; omega
/-- A call of a script. -/
structure OpI where
  kd : Int
  t : TK
  ao : Option Addr
  n : Nat
  c : Nat
  L : List Int
  x : Int
  yes : Bool
  nn : Int
def OpI.cells (o : OpI) : List Value := [.int .u8 o.kd, .int .u8 o.t.1, .int .u32 o.t.2.1, .int .u32 o.t.2.2, .slice o.ao o.n o.c, .int .u8 o.x, .bool o.yes, .int .i64 o.nn]
structure OkI (w0 : World) (o : OpI) : Prop where
  ink : InK o.t
  x0 : 0 ≤ o.x
  li : ∀ x ∈ o.L, 0 ≤ x ∧ x ≤ 255
  len : o.L.length = o.n
  small : o.n + 3 ≤ 140737488355328
  rd : Rd w0 o.ao o.L
  nil : o.ao = none → o.c = 0
def OpI.R (o : OpI) (RM : TK → Option RunM) : TK → Option RunM := stepR o.kd o.t o.L o.x o.yes RM
def OpI.T (o : OpI) (T : TK → Option Int) : TK → Option Int := stepT o.kd o.t o.nn T
/-- play, of both books. -/
theorem play_pair {X : (Nat → Prop) → World → Prop} {w0 w : World} {n p q : Nat} {RM : TK → Option RunM} {T : TK → Option Int} (hX : Ext X) (o : OpI) (ho : OkI w0 o) (hn : n ≤ 999999) (h : Pair X w0 n p q RM T (fun _ => False) w) :
    Calls Try.prog 9 #[.pointer (some ⟨p, 0, none⟩), .pointer (some ⟨q, 0, none⟩), .agg #[.int .u8 o.kd, .int .u8 o.t.1, .int .u32 o.t.2.1, .int .u32 o.t.2.2, .slice o.ao o.n o.c, .int .u8 o.x, .bool o.yes, .int .i64 o.nn]] w fun e w' => e = .returned (.bool true) ∧ Pair X w0 (n + 1) p q (o.R RM) (o.T T) (fun _ => False) w' ∧ w.heap.size ≤ w'.heap.size :=
  play_any (pair_plays hX hn ho.ink o.kd o.L o.n ho.len ho.li o.x ho.x0 o.yes o.nn) o.ao o.c w h ho.len ho.small ho.rd ho.nil
/-- play, of none. -/
theorem play_nil {X : (Nat → Prop) → World → Prop} {w0 w : World} {n p q : Nat} {RM : TK → Option RunM} {T : TK → Option Int} (hX : Ext X) (o : OpI) (ho : OkI w0 o) (h : Pair X w0 n p q RM T (fun _ => False) w) :
    Calls Try.prog 9 #[.pointer none, .pointer none, .agg #[.int .u8 o.kd, .int .u8 o.t.1, .int .u32 o.t.2.1, .int .u32 o.t.2.2, .slice o.ao o.n o.c, .int .u8 o.x, .bool o.yes, .int .i64 o.nn]] w fun e w' => e = .returned (.bool true) ∧ Pair X w0 n p q RM T (fun _ => False) w' ∧ w.heap.size ≤ w'.heap.size :=
  (play_any (nil_plays (ext_px hX) o.kd o.L o.n ho.len ho.li o.x o.yes o.nn) o.ao o.c w (pair_nil h) ho.len ho.small ho.rd ho.nil).mono fun _ _ hh => ⟨hh.1, nil_pair hh.2.1, hh.2.2⟩
/-- A script that stands from an address on. -/
def RdO (w : World) (so : Option Addr) (Os : List OpI) : Prop := ∀ (i : Nat) (o : OpI), Os[i]? = some o → ∃ b off, so = some ⟨b, off, none⟩ ∧ b < w.heap.size ∧ ∀ j v, o.cells[j]? = some v → w.cell? ⟨b, off + i * 8 + j, none⟩ = some v
theorem RdO.on {w w' : World} {so : Option Addr} {Os : List OpI} (h : RdO w so Os) {B : Nat} (hb : Below B w w') (hB : w.heap.size ≤ B) : RdO w' so Os := fun i o ho => by
  obtain ⟨b, off, h1, h2, h3⟩ := h i o ho
  exact ⟨b, off, h1, Nat.lt_of_lt_of_le h2 hb.size, fun j v hv => (hb.cell (p := ⟨b, off + i * 8 + j, none⟩) (Nat.lt_of_lt_of_le h2 hB)).trans (h3 j v hv)⟩
theorem RdO.at {w : World} {so : Option Addr} {Os : List OpI} (h : RdO w so Os) {i : Nat} {o : OpI} (ho : Os[i]? = some o) : ∃ b off, so = some ⟨b, off, none⟩ ∧
    w.cell? ⟨b, off + i * 8, none⟩ = some (.int .u8 o.kd) ∧ w.cell? ⟨b, off + i * 8 + 1, none⟩ = some (.int .u8 o.t.1) ∧ w.cell? ⟨b, off + i * 8 + 2, none⟩ = some (.int .u32 o.t.2.1) ∧ w.cell? ⟨b, off + i * 8 + 3, none⟩ = some (.int .u32 o.t.2.2)
    ∧ w.cell? ⟨b, off + i * 8 + 4, none⟩ = some (.slice o.ao o.n o.c) ∧ w.cell? ⟨b, off + i * 8 + 5, none⟩ = some (.int .u8 o.x) ∧ w.cell? ⟨b, off + i * 8 + 6, none⟩ = some (.bool o.yes) ∧ w.cell? ⟨b, off + i * 8 + 7, none⟩ = some (.int .i64 o.nn) := by
  obtain ⟨b, off, h1, h2, h3⟩ := h i o ho
  exact ⟨b, off, h1, h3 0 _ rfl, h3 1 _ rfl, h3 2 _ rfl, h3 3 _ rfl, h3 4 _ rfl, h3 5 _ rfl, h3 6 _ rfl, h3 7 _ rfl⟩
end Go.Proofs.Ytklalpamcfkngaa.Cm
