/- plate: what writes since the last flush make of the pages; two plates side by side. -/
import Derived.Test.YtjfbgihjgnbeeaaV3
namespace Go.Proofs.Ytjfbgihjgnbeeaa.Pl
open Go Go.RowKit
/-- The writes l lead from the pages p to q. -/
def Hist : (Int → Array Value) → List (Int × Array Value × Array Value) → (Int → Array Value) → Prop
  | p, [], q => q = p
  | p, t :: l, q => t.2.1 = p t.1 ∧ Hist (upd p t.1 t.2.2) l q
theorem Hist.snoc : ∀ {p : Int → Array Value} {l : List (Int × Array Value × Array Value)} {q : Int → Array Value} (_ : Hist p l q) (i : Int) (c : Array Value), Hist p (l ++ [(i, q i, c)]) (upd q i c)
  | _, [], _, h, i, c => by
    obtain rfl := h
    exact ⟨rfl, rfl⟩
  | _, t :: l, _, h, i, c => ⟨h.1, Hist.snoc (l := l) h.2 i c⟩
theorem upd_back (p : Int → Array Value) (i : Int) (c : Array Value) : upd (upd p i c) i (p i) = p := by
  funext j
  simp only [upd]
  split
  · subst_vars; rfl
  · rfl
theorem upd_self (p : Int → Array Value) (i : Int) : upd p i (p i) = p := by
  funext j
  simp only [upd]
  split
  · subst_vars; rfl
  · rfl
theorem hist_back : ∀ {p : Int → Array Value} {l : List (Int × Array Value × Array Value)} {q : Int → Array Value} (_ : Hist p l q), l.foldr (fun t r => upd r t.1 t.2.1) q = p
  | _, [], _, h => h
  | p, t :: l, _, h => by
    rw [List.foldr_cons, hist_back (l := l) h.2, h.1, upd_back]
theorem hist_fore : ∀ {p : Int → Array Value} {l : List (Int × Array Value × Array Value)} {q : Int → Array Value} (_ : Hist p l q), l.foldl (fun r t => upd r t.1 t.2.2) p = q
  | _, [], _, h => h.symm
  | p, t :: l, _, h => by
    rw [List.foldl_cons]
    exact hist_fore (l := l) h.2
theorem unl_foldr (L : List Ent) (q : Int → Array Value) : unl (bk L) q = (L.map Subtype.val).foldr (fun t r => upd r t.1 t.2.1) q := by
  unfold unl bk
  rw [List.foldl_reverse, List.foldr_map, List.foldr_map]
  have : ∀ (L : List Ent) (n : Nat), (L.zipIdx n).foldr (fun x r => upd r x.1.1.1 x.1.1.2.1) q = L.foldr (fun x r => upd r x.1.1 x.1.2.1) q := by
    intro L
    induction L with
    | nil => intro n; rfl
    | cons t L ih => intro n; simp only [List.zipIdx_cons, List.foldr_cons, ih]
  exact this L 0
theorem rep_ones {ks : List Value} {L : List Ent} (p : Int → Array Value) : ∀ k : Nat, k ≤ L.length → (∀ j, j < k → wy ks j = 1) → rep ks L p k = ((L.map Subtype.val).take k).foldl (fun r t => upd r t.1 t.2.2) p
  | 0, _, _ => by simp [rep]
  | k + 1, hk, hw => by
    have ih := rep_ones (ks := ks) (L := L) p k (by omega) (fun j hj => hw j (by omega))
    have ht : L[k]? = some L[k] := List.getElem?_eq_getElem (by omega)
    rw [rep_succ ht, ih, List.take_add_one, List.getElem?_map, ht]
    simp [Ov, hw k (by omega)]
theorem rep_zeros {ks : List Value} {L : List Ent} (p : Int → Array Value) : ∀ k : Nat, (∀ j, j < k → wy ks j = 0) → rep ks L p k = p
  | 0, _ => rfl
  | k + 1, hw => by
    have ih := rep_zeros (ks := ks) (L := L) p k (fun j hj => hw j (by omega))
    cases ht : L[k]? with
    | none => simp [rep, ht, ih]
    | some t =>
      rw [rep_succ ht, ih]
      simp [Ov, hw k (by omega), upd_self]
/-- A plate whose writes since the last flush lead from the pages p. -/
def Lead (p : Int → Array Value) (s : PSt) : Prop := Hist p s.op s.pg
theorem lead_ends (L : List OpV) : Lead (ends L).pg (ends L) := by
  unfold Lead
  rw [(ends_ok L).2.2.2.1]
  rfl
theorem Lead.wrote {p : Int → Array Value} {s : PSt} (h : Lead p s) (i : Int) (c : Array Value) : Lead p (Pl.wrote s i c) := Hist.snoc h i c
/-- A second plate's base may be lower. -/
theorem PlateAt.lower {w : World} {B b n bm : Nat} {F : Nat → Prop} {v : Value} {s : PSt} (h : PlateAt w B F b n bm v s) {B' : Nat} (hB : B' ≤ B) : PlateAt w B' F b n bm v s :=
  ⟨h.blk, h.map, h.row.low hB, h.each, Nat.le_trans hB h.base, h.fb, h.fm, h.fv, fun k hk => Nat.le_trans hB (h.low k hk), h.hi, h.lb, h.ob, h.nb⟩
/-- Two plates, no block of the one the other's, none of G's theirs. -/
def Pq (B b bm m b' bm' m' : Nat) (G : Nat → Prop) (s s' : PSt) (W : World) : Prop :=
  ∃ (v : Value) (F : Nat → Prop) (n : Nat) (v' : Value) (F' : Nat → Prop) (n' : Nat), PlateAt W B F b n bm v s ∧ n ≤ m ∧ PlateAt W B F' b' n' bm' v' s' ∧ n' ≤ m' ∧ (∀ k, F k → ¬ F' k) ∧ (∀ k, F k → ¬ G k) ∧ (∀ k, F' k → ¬ G k) ∧ ∀ k, G k → k < W.heap.size
theorem Pq.swap {B b bm m b' bm' m' : Nat} {G : Nat → Prop} {s s' : PSt} {W : World} (h : Pq B b bm m b' bm' m' G s s' W) : Pq B b' bm' m' b bm m G s' s W := by
  obtain ⟨v, F, n, v', F', n', h1, h2, h3, h4, h5, h6, h7, h8⟩ := h
  exact ⟨v', F', n', v, F, n, h3, h4, h1, h2, fun k hk hk' => h5 k hk' hk, h7, h6, h8⟩
theorem Pq.below {B b bm m b' bm' m' : Nat} {G : Nat → Prop} {s s' : PSt} {W W' : World} (h : Pq B b bm m b' bm' m' G s s' W) (hb : Below W.heap.size W W') : Pq B b bm m b' bm' m' G s s' W' := by
  obtain ⟨v, F, n, v', F', n', h1, h2, h3, h4, h5, h6, h7, h8⟩ := h
  exact ⟨v, F, n, v', F', n', h1.below hb, h2, h3.below hb, h4, h5, h6, h7, fun k hk => Nat.lt_of_lt_of_le (h8 k hk) hb.size⟩
theorem Pq.less {B b bm m b' bm' m' : Nat} {G H : Nat → Prop} {s s' : PSt} {W : World} (h : Pq B b bm m b' bm' m' G s s' W) (hH : ∀ k, H k → G k) : Pq B b bm m b' bm' m' H s s' W := by
  obtain ⟨v, F, n, v', F', n', h1, h2, h3, h4, h5, h6, h7, h8⟩ := h
  exact ⟨v, F, n, v', F', n', h1, h2, h3, h4, h5, fun k hk hG => h6 k hk (hH k hG), fun k hk hG => h7 k hk (hH k hG), fun k hk => h8 k (hH k hk)⟩
theorem Pq.new {B b bm m b' bm' m' : Nat} {G : Nat → Prop} {s s' : PSt} {W W' : World} (h : Pq B b bm m b' bm' m' G s s' W) (hb : Below W.heap.size W W') : Pq B b bm m b' bm' m' (fun k => G k ∨ (W.heap.size ≤ k ∧ k < W'.heap.size)) s s' W' := by
  obtain ⟨v, F, n, v', F', n', h1, h2, h3, h4, h5, h6, h7, h8⟩ := h
  refine ⟨v, F, n, v', F', n', h1.below hb, h2, h3.below hb, h4, h5, ?_, ?_, ?_⟩
  · rintro k hk (hG | hG)
    · exact h6 k hk hG
    · have := h1.hi k hk; omega
  · rintro k hk (hG | hG)
    · exact h7 k hk hG
    · have := h3.hi k hk; omega
  · rintro k (hG | hG)
    · exact Nat.lt_of_lt_of_le (h8 k hG) hb.size
    · exact hG.2
theorem Pq.roomy {B b bm m b' bm' m' : Nat} {G : Nat → Prop} {s s' : PSt} {W : World} (h : Pq B b bm m b' bm' m' G s s' W) : Pq B b bm m b' bm' (m' + 1) G s s' W := by
  obtain ⟨v, F, n, v', F', n', h1, h2, h3, h4, h5⟩ := h
  exact ⟨v, F, n, v', F', n', h1, h2, h3, by omega, h5⟩
theorem Pq.fits {B b bm m b' bm' m' : Nat} {G : Nat → Prop} {s s' : PSt} {W : World} (h : Pq B b bm m b' bm' m' G s s' W) : ∀ k, G k → k < W.heap.size := by
  obtain ⟨_, _, _, _, _, _, _, _, _, _, _, _, _, h8⟩ := h
  exact h8
/-- A block beside both is written. -/
theorem Pq.set {B b bm m b' bm' m' : Nat} {G : Nat → Prop} {s s' : PSt} {W W' : World} {g : Nat} (h : Pq B b bm m b' bm' m' G s s' W) (hg : W.grownBy W' (some g)) (hG : G g) : Pq B b bm m b' bm' m' G s s' W' := by
  obtain ⟨v, F, n, v', F', n', h1, h2, h3, h4, h5, h6, h7, h8⟩ := h
  have ht : Turned (fun k => k = g) W W' := .of_grown hg (fun k e => by injection e with e; exact e.symm)
  exact ⟨v, F, n, v', F', n', h1.on ht (fun k hk e => h6 k hk (by rw [e]; exact hG)), h2, h3.on ht (fun k hk e => h7 k hk (by rw [e]; exact hG)), h4, h5, h6, h7, fun k hk => Nat.lt_of_lt_of_le (h8 k hk) ht.size⟩
theorem Src.same {W W' : World} {g : Nat} {bs : List Value} {G : Nat → Prop} (h : Src W (some ⟨g, 0, none⟩) bs) (hS : Same G W W') (hg : G g) : Src W' (some ⟨g, 0, none⟩) bs :=
  ⟨fun h0 => by
    obtain ⟨ad, e, hc⟩ := h.1 h0
    cases e
    refine ⟨_, rfl, fun j v hv => ?_⟩
    have := hc j v hv
    rw [Go.WideShapes.add_plain] at this ⊢
    exact (World.cell?_of_block (hS g hg)).trans this, h.2⟩
/-- A plate armed and flushed: its power is gone, its writes stand. -/
def cutOf (s : PSt) : PSt := { s with off := true, left := 0, ops := s.ops + 1 }
theorem flushed_cut (s : PSt) : flushed { s with left := 1 } = cutOf s := by simp [flushed, cutOf]
theorem Lead.cut {p : Int → Array Value} {s : PSt} (h : Lead p s) : Lead p (cutOf s) := h
/-- A call that turns the first plate alone. -/
theorem pq_op {B b bm m b' bm' m' m1 f : Nat} {args : Array Value} {r : Value} {G : Nat → Prop} {s s' : PSt} {Q : PSt → Prop} {W : World} (h : Pq B b bm m b' bm' m' G s s' W)
    (hop : ∀ v F n, PlateAt W B F b n bm v s → n ≤ m → (∀ k, F k → ¬ G k) → Calls Try.prog f args W fun e w' => e = .returned r ∧ ∃ s1 n1, Q s1 ∧ Did W B F b n1 bm s1 w' ∧ n1 ≤ m1) :
    Calls Try.prog f args W fun e w' => e = .returned r ∧ (∃ s1, Q s1 ∧ Pq B b bm m1 b' bm' m' G s1 s' w') ∧ Below B W w' ∧ Same G W w' := by
  obtain ⟨v, F, n, v', F', n', h1, h2, h3, h4, h5, h6, h7, h8⟩ := h
  refine (hop v F n h1 h2 h6).mono ?_
  rintro e w' ⟨rfl, s1, n1, hQ, ⟨v1, F1, p1, p2, p3⟩, hn1⟩
  refine ⟨rfl, ⟨s1, hQ, v1, F1, n1, v', F', n', p1, hn1, h3.on p3 (fun k hk hF => h5 k hF hk), h4, fun k hk hk' => ?_, fun k hk hG => ?_, h7, fun k hk => Nat.lt_of_lt_of_le (h8 k hk) p3.size⟩, p3.below h1.base h1.low, fun k hk => p3.block k (h8 k hk) (fun e => h6 k e hk)⟩
  · rcases p2 k hk with e | e
    · exact h5 k e hk'
    · have := h3.hi k hk'; omega
  · rcases p2 k hk with e | e
    · exact h6 k e hG
    · have := h8 k hG; omega
theorem pq_write {B b bm m b' bm' m' : Nat} {G : Nat → Prop} {s s' : PSt} {W : World} {k : Nat} (h : Pq B b bm m b' bm' m' G s s' W) (hF : Fine s k) (hk : k ≤ 1000) (hm : m ≤ 1000) (i : Nat) (hi : i < 8) (g : Nat) (len cap : Nat) (bs : List Value) (hl : bs.length = len) (hlen : len ≤ 64) (hs : Src W (some ⟨g, 0, none⟩) bs) :
    Calls Try.prog 16 #[.pointer (some ⟨b, 0, none⟩), .int .i64 i, .slice (some ⟨g, 0, none⟩) len cap] W fun e w' => e = .returned (.int .i64 0) ∧ Pq B b bm (m + 1) b' bm' m' G (wrote s i (pageOf bs)) s' w' ∧ Below B W w' ∧ Same G W w' := by
  refine (pq_op (r := .int .i64 0) (m1 := m + 1) (Q := fun s1 => s1 = wrote s i (pageOf bs)) h fun v F n h1 h2 _ => ?_).mono ?_
  · have := write_ok b n bm B F v s i (some ⟨g, 0, none⟩) len cap bs W h1 hF.2.1 (by omega) (by rw [hF.1]; omega) hl hlen hs (by unfold maxLen; omega) (by have := hF.2.2.2.2; omega) (by have := hF.2.2.2.1; omega)
    rw [An0 hF] at this
    refine this.mono ?_
    rintro e w' ⟨rfl, hD⟩
    exact ⟨rfl, _, _, rfl, hD, by omega⟩
  · rintro e w' ⟨rfl, ⟨_, rfl, hP⟩, hB, hS⟩
    exact ⟨rfl, hP, hB, hS⟩
theorem pq_arm {B b bm m b' bm' m' : Nat} {G : Nat → Prop} {s s' : PSt} {W : World} (h : Pq B b bm m b' bm' m' G s s' W) (hon : s.off = false) (k : Int) (k0 : 0 ≤ k) (k1 : k ≤ 9223372036854775807) :
    Calls Try.prog 17 #[.pointer (some ⟨b, 0, none⟩), .int .i64 k] W fun e w' => e = .returned (.int .i64 0) ∧ Pq B b bm m b' bm' m' G { s with left := k } s' w' ∧ Below B W w' ∧ Same G W w' := by
  refine (pq_op (r := .int .i64 0) (m1 := m) (Q := fun s1 => s1 = { s with left := k }) h fun v F n h1 h2 _ => ?_).mono ?_
  · refine (arm_ok b n bm B F v s k W h1 hon k0 k1).mono ?_
    rintro e w' ⟨rfl, hD⟩
    exact ⟨rfl, _, _, rfl, hD, h2⟩
  · rintro e w' ⟨rfl, ⟨_, rfl, hP⟩, hB, hS⟩
    exact ⟨rfl, hP, hB, hS⟩
theorem pq_flush {B b bm m b' bm' m' : Nat} {G : Nat → Prop} {s s' : PSt} {W : World} (h : Pq B b bm m b' bm' m' G s s' W) (hon : s.off = false) (ho : s.ops < 4000000000000000000) :
    Calls Try.prog 18 #[.pointer (some ⟨b, 0, none⟩)] W fun e w' => e = .returned (.int .i64 (An s.left)) ∧ Pq B b bm m b' bm' m' G (flushed s) s' w' ∧ Below B W w' ∧ Same G W w' := by
  refine (pq_op (r := .int .i64 (An s.left)) (m1 := m) (Q := fun s1 => s1 = flushed s) h fun v F n h1 h2 _ => ?_).mono ?_
  · refine (flush_any b n bm B F v s W h1 hon ho).mono ?_
    rintro e w' ⟨rfl, hD⟩
    exact ⟨rfl, _, _, rfl, hD, h2⟩
  · rintro e w' ⟨rfl, ⟨_, rfl, hP⟩, hB, hS⟩
    exact ⟨rfl, hP, hB, hS⟩
/-- What Restart leaves, where the writes l since the last flush led from the pages p. -/
def Woke (ks : List Value) (p : Int → Array Value) (s s1 : PSt) : Prop :=
  s1.N = s.N ∧ s1.off = false ∧ s1.left = 0 ∧ s1.op = [] ∧ s1.ops = s.ops ∧ ∃ L : List Ent, L.map Subtype.val = s.op ∧ s1.pg = rep ks L p L.length
theorem pq_restart {B b bm m b' bm' m' : Nat} {G : Nat → Prop} {s s' : PSt} {W : World} {p : Int → Array Value} (h : Pq B b bm m b' bm' m' G s s' W) (hoff : s.off = true) (hL : Lead p s) (hop : s.op.length ≤ 1000) (hm : m ≤ 10000) (g len cap : Nat) (ks : List Value) (hl : ks.length = len) (hlen : len < 4611686018427387904) (hs : Src W (some ⟨g, 0, none⟩) ks) (hg : G g) :
    Calls Try.prog 20 #[.pointer (some ⟨b, 0, none⟩), .agg #[.slice (some ⟨g, 0, none⟩) len cap]] W fun e w' => e = .returned (.int .i64 0) ∧ (∃ s1, Woke ks p s s1 ∧ Pq B b bm (m + 2000) b' bm' m' G s1 s' w') ∧ Below B W w' ∧ Same G W w' := by
  refine pq_op (m1 := m + 2000) (Q := Woke ks p s) h fun v F n h1 h2 h3 => ?_
  refine (restart_ok b n bm B F v s (some ⟨g, 0, none⟩) len cap ks W h1 hoff hl hlen hs (fun ad e hF => by cases e; exact h3 g hF hg) (by unfold maxLen; omega) (by omega)).mono ?_
  rintro e w' ⟨rfl, L, hLs, hD⟩
  refine ⟨rfl, { s with pg := rep ks L (unl (bk L) s.pg) L.length, op := [], off := false, left := 0 }, n + 2 * s.op.length, ⟨rfl, rfl, rfl, rfl, rfl, L, hLs, ?_⟩, hD, by omega⟩
  show rep ks L (unl (bk L) s.pg) L.length = rep ks L p L.length
  rw [unl_foldr, hLs, hist_back hL]
theorem Woke.ones {ks : List Value} {p : Int → Array Value} {s s1 : PSt} (h : Woke ks p s s1) (hL : Lead p s) (hk : ∀ j, j < s.op.length → wy ks j = 1) : s1.pg = s.pg := by
  obtain ⟨_, _, _, _, _, L, e, e2⟩ := h
  have hl : L.length = s.op.length := by rw [← e, List.length_map]
  rw [e2, rep_ones p L.length (Nat.le_refl _) (fun j hj => hk j (by omega)), e, hl, List.take_length, hist_fore hL]
theorem Woke.zeros {ks : List Value} {p : Int → Array Value} {s s1 : PSt} (h : Woke ks p s s1) (hk : ∀ j, j < s.op.length → wy ks j = 0) : s1.pg = p := by
  obtain ⟨_, _, _, _, _, L, e, e2⟩ := h
  have hl : L.length = s.op.length := by rw [← e, List.length_map]
  rw [e2, rep_zeros p L.length (fun j hj => hk j (by omega))]
theorem pq_pages {B b bm m b' bm' m' : Nat} {G : Nat → Prop} {s s' : PSt} {W : World} (h : Pq B b bm m b' bm' m' G s s' W) (hon : s.off = false) (hN : s.N = 8) :
    Calls Try.prog 14 #[.pointer (some ⟨b, 0, none⟩)] W fun e w' => ∃ g c, e = .returned (.tuple #[.slice (some ⟨g, 0, none⟩) 8 c, .bool true]) ∧ 8 ≤ c ∧ PgS (fun k => G k ∨ (W.heap.size ≤ k ∧ k < w'.heap.size)) s.pg g w' ∧ Pq B b bm m b' bm' m' (fun k => G k ∨ (W.heap.size ≤ k ∧ k < w'.heap.size)) s s' w' ∧ Below W.heap.size W w' := by
  have h' := h
  obtain ⟨v, F, n, v', F', n', h1, h2, _, _, _, h6, _, h8⟩ := h'
  refine (pt_pages ⟨v, F, n, h1, h2, h6, h8⟩ hon hN).mono ?_
  rintro e w' ⟨g, c, rfl, hc, hS, _, hB⟩
  exact ⟨g, c, rfl, hc, hS, h.new hB, hB⟩
/-- A second plate is made behind a first one. -/
theorem pq_made {B b bm b' bm' m m' : Nat} {s s' : PSt} {W W' : World} (h : Pt B b bm m (fun _ => False) s W) (hb : Below W.heap.size W W') (h' : Pt W.heap.size b' bm' m' (fun _ => False) s' W') : Pq B b bm m b' bm' m' (fun _ => False) s s' W' := by
  obtain ⟨v, F, n, h1, h2, _, _⟩ := h
  obtain ⟨v', F', n', h3, h4, _, _⟩ := h'
  exact ⟨v, F, n, v', F', n', h1.below hb, h2, h3.lower h1.base, h4, fun k hk hk' => by have := h1.hi k hk; have := h3.low k hk'; omega, fun _ _ h => h, fun _ _ h => h, fun _ h => h.elim⟩
end Go.Proofs.Ytjfbgihjgnbeeaa.Pl
