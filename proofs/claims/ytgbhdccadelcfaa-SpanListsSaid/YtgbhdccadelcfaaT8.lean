/- span: the law on scripts, walked. -/
import Derived.Test.YtgbhdccadelcfaaR7
import Derived.Deep.RegionHeld3
import Derived.Deep.RegionWith
namespace Go.Proofs.Ytgbhdccadelcfaa.Sp
open Go Go.RowKit
/-- Deeds that stand from an address on. -/
def Rd3 (w : World) (ao : Option Addr) (D : DL) : Prop :=
  ∀ i t, D[i]? = some t → ∃ b off, ao = some ⟨b, off, none⟩ ∧ b < w.heap.size ∧ w.cell? ⟨b, off + i * 3, none⟩ = some (.int .u32 t.1) ∧ w.cell? ⟨b, off + i * 3 + 1, none⟩ = some (.int .u32 t.2.1) ∧ w.cell? ⟨b, off + i * 3 + 2, none⟩ = some (.bool t.2.2)
theorem Rd3.on {w w' : World} {ao : Option Addr} {D : DL} (h : Rd3 w ao D) {B : Nat} (hb : Below B w w') (hB : w.heap.size ≤ B) : Rd3 w' ao D := fun i t ht => by
  obtain ⟨b, off, h1, h2, h3, h4, h5⟩ := h i t ht
  exact ⟨b, off, h1, Nat.lt_of_lt_of_le h2 hb.size, (hb.cell (p := ⟨b, off + i * 3, none⟩) (by simp; omega)).trans h3, (hb.cell (p := ⟨b, off + i * 3 + 1, none⟩) (by simp; omega)).trans h4, (hb.cell (p := ⟨b, off + i * 3 + 2, none⟩) (by simp; omega)).trans h5⟩
/-- The state of the law ahead of a deed. -/
def PlI (w : World) (p q : Nat) (i : Nat) (wr : World) : Prop := ∃ L D, Pl w.heap.size w wr (fun _ => False) p q L D ∧ SpOf D L ∧ InD D ∧ D.length ≤ i
theorem PlI.ahead {w wr : World} {p q i : Nat} (h : PlI w p q i wr) : Below w.heap.size w wr := by
  obtain ⟨L, D, h1, _⟩ := h
  exact h1.is.ahead
theorem PlI.below {w wr w' : World} {p q i : Nat} (h : PlI w p q i wr) (hb : Below wr.heap.size wr w') : PlI w p q i w' := by
  obtain ⟨L, D, h1, h2, h3, h4⟩ := h
  exact ⟨L, D, h1.below hb, h2, h3, h4⟩
theorem PlI.p1 {w wr : World} {p q i : Nat} (h : PlI w p q i wr) (a b : Int) (c : Bool) : ∃ D, P1 w.heap.size w p q wr.heap.size D (deedO a b c) D (wr.alloc (deedO a b c)) ∧ InD D ∧ D.length ≤ i := by
  obtain ⟨L, D, h1, h2, h3, h4⟩ := h
  exact ⟨D, ⟨L, h1.alloc _, h2, heap_alloc_new wr _⟩, h3, h4⟩
/-- The start: a new set, and the document's new set. -/
theorem pl_start (w w1 w2 w3 : World) (hb : Below w.heap.size w w1) (h2 : w2 = w1.alloc (.cells #[.slice none 0 0] 66)) (h3 : w3 = w2.alloc (.cells #[.slice none 0 0] 29)) : PlI w w1.heap.size w2.heap.size 0 w3 := by
  have s2 : w2.heap.size = w1.heap.size + 1 := by rw [h2]; simp
  have s3 : w3.heap.size = w1.heap.size + 2 := by rw [h3]; simp [s2]
  have e2 : w2.heap[w1.heap.size]? = some (.cells #[.slice none 0 0] 66 (0, 0)) := by rw [h2]; exact heap_alloc_new w1 _
  have e3 : w3.heap[w2.heap.size]? = some (.cells #[.slice none 0 0] 29 (0, 0)) := by rw [h3]; exact heap_alloc_new w2 _
  have k2 : w3.heap[w1.heap.size]? = some (.cells #[.slice none 0 0] 66 (0, 0)) := by rw [h3, heap_alloc_old _ _ (by omega)]; exact e2
  have hs := hb.size
  have bb : Below w.heap.size w w3 := by
    rw [h3, h2]
    exact (hb.alloc hs _).alloc (by simp; omega) _
  refine ⟨[], [], ⟨.slice none 0 0, .slice none 0 0, (fun k => k = w1.heap.size), (fun k => k = w2.heap.size), ⟨⟨k2, World.ownsRow_nil _ _ _ _⟩, canon_nil, by omega, rfl, (fun g e => by simp [Value.ownBlock] at e), (fun k hk => by omega), (fun k hk => by omega)⟩, ⟨e3, World.ownsRow_nil _ _ _ _, by omega, rfl, (fun g e => by simp [Value.ownBlock] at e), (fun k hk => by omega), (fun k hk => by omega)⟩, (fun k h1 h2 => by omega), (fun z hz => hz.elim), bb⟩, ⟨canon_nil, fun n _ _ => by simp [mem_none, hasD]⟩, (fun d hd => by cases hd), Nat.le_refl _⟩
theorem sx_drew {n0 p q z : Nat} {w0 w : World} {D A B : DL} {a b : Int} {c : Bool} {o : Obj} (h : (w.cell? ⟨z, 0, none⟩ = some (.int .u32 a) ∧ w.cell? ⟨z, 1, none⟩ = some (.int .u32 b) ∧ w.cell? ⟨z, 2, none⟩ = some (.bool c)) ∧ Hid (P2 n0 w0 p q z D o A B w)) :
    (w.drew.cell? ⟨z, 0, none⟩ = some (.int .u32 a) ∧ w.drew.cell? ⟨z, 1, none⟩ = some (.int .u32 b) ∧ w.drew.cell? ⟨z, 2, none⟩ = some (.bool c)) ∧ Hid (P2 n0 w0 p q z D o A B w.drew) := ⟨h.1, Lib.hid (h.2.out.below (Below.refl _ _).drew)⟩
section
variable {n0 p q z : Nat} {w0 wc : World} {D : DL} {a b : Int} {c : Bool}
theorem nil_add1 (h : (wc.cell? ⟨z, 0, none⟩ = some (.int .u32 a) ∧ wc.cell? ⟨z, 1, none⟩ = some (.int .u32 b) ∧ wc.cell? ⟨z, 2, none⟩ = some (.bool c)) ∧ Hid (P2 n0 w0 p q z D (deedO a b c) D (D ++ [(a, b, true)]) wc)) (hg : Hid (P1 n0 w0 p q z D (deedO a b c) (D ++ [(a, b, true)]) wc)) (hab : a ≤ b) :
    Calls Try.prog 10 #[.pointer none, .int .u32 a, .int .u32 b] wc fun e wn => e = .returned (.int .i64 6) ∧ ((wn.cell? ⟨z, 0, none⟩ = some (.int .u32 a) ∧ wn.cell? ⟨z, 1, none⟩ = some (.int .u32 b) ∧ wn.cell? ⟨z, 2, none⟩ = some (.bool c)) ∧ Hid (P2 n0 w0 p q z D (deedO a b c) D (D ++ [(a, b, true)]) wn)) ∧ Hid (P1 n0 w0 p q z D (deedO a b c) (D ++ [(a, b, true)]) wn) := by
  refine (add_nil a b wc hab).mono ?_
  rintro e wn ⟨rfl, rfl⟩
  exact ⟨rfl, h, hg⟩
theorem nil_add0 (h : (wc.cell? ⟨z, 0, none⟩ = some (.int .u32 a) ∧ wc.cell? ⟨z, 1, none⟩ = some (.int .u32 b) ∧ wc.cell? ⟨z, 2, none⟩ = some (.bool c)) ∧ Hid (P2 n0 w0 p q z D (deedO a b c) D (D ++ [(a, b, true)]) wc)) (hab : a ≤ b) :
    Calls Try.prog 10 #[.pointer none, .int .u32 a, .int .u32 b] wc fun e wn => e = .returned (.int .i64 6) ∧ ((wn.cell? ⟨z, 0, none⟩ = some (.int .u32 a) ∧ wn.cell? ⟨z, 1, none⟩ = some (.int .u32 b) ∧ wn.cell? ⟨z, 2, none⟩ = some (.bool c)) ∧ Hid (P2 n0 w0 p q z D (deedO a b c) D (D ++ [(a, b, true)]) wn)) := by
  refine (add_nil a b wc hab).mono ?_
  rintro e wn ⟨rfl, rfl⟩
  exact ⟨rfl, h⟩
theorem set_add1 (h : (wc.cell? ⟨z, 0, none⟩ = some (.int .u32 a) ∧ wc.cell? ⟨z, 1, none⟩ = some (.int .u32 b) ∧ wc.cell? ⟨z, 2, none⟩ = some (.bool c)) ∧ Hid (P2 n0 w0 p q z D (deedO a b c) D (D ++ [(a, b, true)]) wc)) (hD : InD D) (hl : D.length ≤ 100) (h0 : 0 ≤ a) (hab : a ≤ b) (hb : b ≤ 4294967295) :
    Calls Try.prog 10 #[.pointer (some ⟨p, 0, none⟩), .int .u32 a, .int .u32 b] wc fun e wn => e = .returned (.int .i64 0) ∧ ((wn.cell? ⟨z, 0, none⟩ = some (.int .u32 a) ∧ wn.cell? ⟨z, 1, none⟩ = some (.int .u32 b) ∧ wn.cell? ⟨z, 2, none⟩ = some (.bool c)) ∧ Hid (P2 n0 w0 p q z D (deedO a b c) D (D ++ [(a, b, true)]) wn)) ∧ Hid (P1 n0 w0 p q z D (deedO a b c) (D ++ [(a, b, true)]) wn) := by
  refine (p_add h.2.out hD hl h0 hab hb).mono ?_
  rintro e wn ⟨rfl, hg⟩
  exact ⟨rfl, ⟨PlG.cells hg, Lib.hid hg.two'⟩, Lib.hid hg⟩
theorem nil_drop1 (h : (wc.cell? ⟨z, 0, none⟩ = some (.int .u32 a) ∧ wc.cell? ⟨z, 1, none⟩ = some (.int .u32 b) ∧ wc.cell? ⟨z, 2, none⟩ = some (.bool c)) ∧ Hid (P2 n0 w0 p q z D (deedO a b c) (D ++ [(a, b, true)]) (D ++ [(a, b, false)]) wc)) (hg : Hid (P1 n0 w0 p q z D (deedO a b c) (D ++ [(a, b, false)]) wc)) (hab : a ≤ b) :
    Calls Try.prog 11 #[.pointer none, .int .u32 a, .int .u32 b] wc fun e wn => e = .returned (.int .i64 6) ∧ ((wn.cell? ⟨z, 0, none⟩ = some (.int .u32 a) ∧ wn.cell? ⟨z, 1, none⟩ = some (.int .u32 b) ∧ wn.cell? ⟨z, 2, none⟩ = some (.bool c)) ∧ Hid (P2 n0 w0 p q z D (deedO a b c) (D ++ [(a, b, true)]) (D ++ [(a, b, false)]) wn)) ∧ Hid (P1 n0 w0 p q z D (deedO a b c) (D ++ [(a, b, false)]) wn) := by
  refine (drop_nil a b wc hab).mono ?_
  rintro e wn ⟨rfl, rfl⟩
  exact ⟨rfl, h, hg⟩
theorem nil_drop0 (h : (wc.cell? ⟨z, 0, none⟩ = some (.int .u32 a) ∧ wc.cell? ⟨z, 1, none⟩ = some (.int .u32 b) ∧ wc.cell? ⟨z, 2, none⟩ = some (.bool c)) ∧ Hid (P2 n0 w0 p q z D (deedO a b c) (D ++ [(a, b, true)]) (D ++ [(a, b, false)]) wc)) (hab : a ≤ b) :
    Calls Try.prog 11 #[.pointer none, .int .u32 a, .int .u32 b] wc fun e wn => e = .returned (.int .i64 6) ∧ ((wn.cell? ⟨z, 0, none⟩ = some (.int .u32 a) ∧ wn.cell? ⟨z, 1, none⟩ = some (.int .u32 b) ∧ wn.cell? ⟨z, 2, none⟩ = some (.bool c)) ∧ Hid (P2 n0 w0 p q z D (deedO a b c) (D ++ [(a, b, true)]) (D ++ [(a, b, false)]) wn)) := by
  refine (drop_nil a b wc hab).mono ?_
  rintro e wn ⟨rfl, rfl⟩
  exact ⟨rfl, h⟩
theorem set_drop1 (h : (wc.cell? ⟨z, 0, none⟩ = some (.int .u32 a) ∧ wc.cell? ⟨z, 1, none⟩ = some (.int .u32 b) ∧ wc.cell? ⟨z, 2, none⟩ = some (.bool c)) ∧ Hid (P2 n0 w0 p q z D (deedO a b c) (D ++ [(a, b, true)]) (D ++ [(a, b, false)]) wc)) (hD : InD D) (hl : D.length ≤ 100) (h0 : 0 ≤ a) (hab : a ≤ b) (hb : b ≤ 4294967295) :
    Calls Try.prog 11 #[.pointer (some ⟨p, 0, none⟩), .int .u32 a, .int .u32 b] wc fun e wn => e = .returned (.int .i64 0) ∧ ((wn.cell? ⟨z, 0, none⟩ = some (.int .u32 a) ∧ wn.cell? ⟨z, 1, none⟩ = some (.int .u32 b) ∧ wn.cell? ⟨z, 2, none⟩ = some (.bool c)) ∧ Hid (P2 n0 w0 p q z D (deedO a b c) (D ++ [(a, b, true)]) (D ++ [(a, b, false)]) wn)) ∧ Hid (P1 n0 w0 p q z D (deedO a b c) (D ++ [(a, b, false)]) wn) := by
  refine (p_drop h.2.out hD hl h0 hab hb).mono ?_
  rintro e wn ⟨rfl, hg⟩
  exact ⟨rfl, ⟨PlG.cells hg, Lib.hid hg.two'⟩, Lib.hid hg⟩
theorem p_do {A : DL} (h : P1 n0 w0 p q z D (deedO a b c) A wc) (hab : a ≤ b) (hD : D.length ≤ 100) :
    Calls Try.prog 12 #[.pointer (some ⟨q, 0, none⟩), .int .u32 a, .int .u32 b, .bool c] wc fun e wn => e = .returned (.int .i64 0) ∧ PlG n0 w0 p q z (D ++ [(a, b, c)]) (deedO a b c) (SpOf A) wn := by
  obtain ⟨M, h1, h2, h3⟩ := h
  refine (pl_do h1 a b c hab (by omega)).mono ?_
  rintro e wn ⟨rfl, k1, k2⟩
  exact ⟨rfl, M, k1, h2, (k2 z rfl).trans h3⟩
end
/-- Behind a deed: what both sets are, the deed's own cells. -/
def AftI (w : World) (p q z i : Nat) (a b : Int) (c : Bool) (wx : World) : Prop := ∃ L D, Pl w.heap.size w wx (fun y => y = z) p q L D ∧ SpOf D L ∧ InD D ∧ D.length ≤ i + 1 ∧ wx.heap[z]? = some (deedO a b c)
def CutA (w : World) (p q z : Nat) (D : DL) (a b : Int) (c : Bool) (s10 s11 : Value) (wx : World) : Prop :=
  (a ≤ b ∧ s10 = .int .i64 0 ∧ s11 = .int .i64 6 ∧ P1 w.heap.size w p q z D (deedO a b c) (D ++ [(a, b, true)]) wx) ∨ (b < a ∧ s10 = .int .i64 1 ∧ s11 = .int .i64 1 ∧ P1 w.heap.size w p q z D (deedO a b c) D wx)
theorem cutA_cells {w wx : World} {p q z : Nat} {D : DL} {a b : Int} {c : Bool} {s10 s11 : Value} (h : CutA w p q z D a b c s10 s11 wx) : wx.cell? ⟨z, 0, none⟩ = some (.int .u32 a) ∧ wx.cell? ⟨z, 1, none⟩ = some (.int .u32 b) ∧ wx.cell? ⟨z, 2, none⟩ = some (.bool c) := by
  rcases h with ⟨_, _, _, h⟩ | ⟨_, _, _, h⟩
  · exact PlG.cells h
  · exact PlG.cells h
def CutB (w : World) (p q z : Nat) (D : DL) (a b : Int) (c : Bool) (s10 s11 : Value) (wx : World) : Prop :=
  (a ≤ b ∧ s10 = .int .i64 0 ∧ s11 = .int .i64 6 ∧ P1 w.heap.size w p q z D (deedO a b c) (D ++ [(a, b, c)]) wx) ∨ (b < a ∧ s10 = .int .i64 1 ∧ s11 = .int .i64 1 ∧ P1 w.heap.size w p q z D (deedO a b c) D wx)
theorem cutB_cells {w wx : World} {p q z : Nat} {D : DL} {a b : Int} {c : Bool} {s10 s11 : Value} (h : CutB w p q z D a b c s10 s11 wx) : wx.cell? ⟨z, 0, none⟩ = some (.int .u32 a) ∧ wx.cell? ⟨z, 1, none⟩ = some (.int .u32 b) ∧ wx.cell? ⟨z, 2, none⟩ = some (.bool c) := by
  rcases h with ⟨_, _, _, h⟩ | ⟨_, _, _, h⟩
  · exact PlG.cells h
  · exact PlG.cells h
theorem is_spans_own {n0 p : Nat} {w0 w : World} {L : SL} (h : SetIs n0 w0 w p L) (hL : L.length ≤ 1000) :
    Calls Try.prog 13 #[.pointer (some ⟨p, 0, none⟩)] w fun e w' => ∃ ao cap, e = .returned (.slice ao L.length cap) ∧ w'.ownsRow w.heap.size 46 2 (.slice ao L.length cap) L.length (fl L) ∧ Below w.heap.size w w' := by
  obtain ⟨v, F, h1, h2⟩ := h
  refine (spans_any n0 p F v L w h1 hL).mono ?_
  rintro e w' ⟨v', rfl, ho, hb⟩
  obtain ⟨ao, cap, rfl, _, hr⟩ := rd_own ho
  exact ⟨ao, cap, rfl, ho, hb⟩
/-- What the reads of both sets answer, whatever has been made since. -/
structure Reads (w0 w12 w14 : World) (p q n : Nat) (L : SL) (D : DL) (lo : Option Addr) (lc : Nat) (wo : Option Addr) (wc2 : Nat) : Prop where
  cv : ∀ wk, Below w14.heap.size w14 wk → Calls Try.prog 16 #[.slice lo n lc] wk fun e w' => ∃ bo cap, e = .returned (.slice bo n cap) ∧ Rd2 w' bo L ∧ Below wk.heap.size wk w'
  sm : ∀ wk bo cap, Below w14.heap.size w14 wk → Rd2 wk bo L → Calls Try.prog 15 #[.slice bo n cap, .slice wo n wc2] wk fun e w' => e = .returned (.bool true) ∧ Below wk.heap.size wk w'
  ct : ∀ wk, Below w12.heap.size w12 wk → Calls Try.prog 17 #[.pointer (some ⟨p, 0, none⟩)] wk fun e w' => e = .returned (.int .u64 (card L)) ∧ Below wk.heap.size wk w'
  c2 : ∀ wk, Below w14.heap.size w14 wk → Calls Try.prog 18 #[.slice wo n wc2] wk fun e w' => e = .returned (.int .u64 (card L)) ∧ Below wk.heap.size wk w'
  fr : ∀ wk m, Below w12.heap.size w12 wk → Calls Try.prog 19 #[.pointer (some ⟨p, 0, none⟩), .int .u32 m] wk fun e w' => FreeR L m e ∧ Below wk.heap.size wk w'
  rf : ∀ wk m, Below w12.heap.size w12 wk → Calls Try.prog 20 #[.pointer (some ⟨q, 0, none⟩), .int .u32 m] wk fun e w' => FreeR L m e ∧ Below wk.heap.size wk w'
  hs : ∀ wk m, Below w12.heap.size w12 wk → Calls Try.prog 21 #[.pointer (some ⟨p, 0, none⟩), .int .u32 m] wk fun e w' => e = .returned (.bool (hasB L m)) ∧ Below wk.heap.size wk w'
  rh : ∀ wk m, Below w12.heap.size w12 wk → 0 ≤ m → m ≤ 4294967295 → Calls Try.prog 22 #[.pointer (some ⟨q, 0, none⟩), .int .u32 m] wk fun e w' => e = .returned (.bool (hasB L m)) ∧ Below wk.heap.size wk w'
theorem is_has1 {n0 p : Nat} {w0 w : World} {L : SL} {n : Int} (h : SetIs n0 w0 w p L) (hL : L.length ≤ 1000) :
    Calls Try.prog 21 #[.pointer (some ⟨p, 0, none⟩), .int .u32 n] w fun e w' => e = .returned (.bool (hasB L n)) ∧ Below w.heap.size w w' := by
  obtain ⟨v, F, h1, h2⟩ := h
  exact has_any n0 p F v L n w h1 hL
theorem reads_facts {n0 p q n : Nat} {w0 w12 w14 : World} {Zs : Nat → Prop} {L : SL} {D : DL} {lo wo : Option Addr} {lc wc2 : Nat} (h : Pl n0 w0 w12 Zs p q L D) (hS : SpOf D L) (hD : InD D) (hl : D.length ≤ 200) (hn : L.length = n) (hL : L.length ≤ 1000) (_hb : Below w12.heap.size w12 w14) (h1 : Rd2 w14 lo L) (h2 : Rd2 w14 wo L) :
    Reads w0 w12 w14 p q n L D lo lc wo wc2 := by
  subst hn
  refine ⟨fun wk hk => is_conv (h1.on hk (Nat.le_refl _)) hL, fun wk bo cap hk hr => ?_, fun wk hk => is_count (h.below hk).is hL, fun wk hk => count18 wo wc2 L wk (h2.on hk (Nat.le_refl _)) hS.can hL, fun wk m hk => is_free (h.below hk).is hL, fun wk m hk => ?_, fun wk m hk => is_has1 (h.below hk).is hL, fun wk m hk m0 m1 => ?_⟩
  · refine (same_any bo wo cap wc2 L L wk hr (h2.on hk (Nat.le_refl _)) hL hL).mono ?_
    rintro e w' ⟨rfl, hb⟩
    exact ⟨by rw [decide_eq_true rfl], hb⟩
  · refine (reffree_any m (h.below hk).ref hD hl).mono ?_
    rintro e w' ⟨S, hs, hf, hb⟩
    rw [spof_one hs hS] at hf
    exact ⟨hf, hb⟩
  · refine (refis_has m (h.below hk).ref (by omega)).mono ?_
    rintro e w' ⟨rfl, hb⟩
    refine ⟨?_, hb⟩
    congr 2
    rw [Bool.eq_iff_iff, hasB_iff]
    exact (hS.mem m m0 m1).symm
theorem rd_own_n {w : World} {B n lc : Nat} {lo : Option Addr} {L : SL} (hn : L.length = n) (h : w.ownsRow B 46 2 (.slice lo n lc) n (fl L)) : Rd2 w lo L := by
  subst hn
  obtain ⟨ao, cap, e, _, hr⟩ := rd_own h
  simp only [Value.slice.injEq] at e
  obtain ⟨rfl, _, _⟩ := e
  exact hr
theorem fl_set : ∀ (L : SL) (k : Nat) (t : Int × Int) (x : Int), L[k]? = some t → (fl L).set (k * 2 + 1) (.int .u32 x) = fl (L.set k (t.1, x))
  | [], k, t, x, h => by simp at h
  | u :: L, 0, t, x, h => by
    simp only [List.getElem?_cons_zero, Option.some.injEq] at h
    subst h
    simp [fl]
  | u :: L, k + 1, t, x, h => by
    simp only [List.getElem?_cons_succ] at h
    have ih := fl_set L k t x h
    have e1 : fl (u :: L) = .int .u32 u.1 :: .int .u32 u.2 :: fl L := by simp [fl]
    have e2 : fl ((u :: L).set (k + 1) (t.1, x)) = .int .u32 u.1 :: .int .u32 u.2 :: fl (L.set k (t.1, x)) := by simp [fl]
    rw [e1, e2, ← ih, show (k + 1) * 2 + 1 = (k * 2 + 1) + 1 + 1 by omega, List.set_cons_succ, List.set_cons_succ]
/-- A list of one's own whose ends are being changed. -/
def XorI (B : Nat) (w0 : World) (n lc : Nat) (lo : Option Addr) (wr : World) : Prop := Below B w0 wr ∧ ∃ L' : SL, L'.length = n ∧ wr.ownsRow B 46 2 (.slice lo n lc) n (fl L')
theorem XorI.at {B n lc k : Nat} {w0 wr : World} {lo : Option Addr} (h : XorI B w0 n lc lo wr) (hk : k < n) :
    ∃ g t2, lo = some ⟨g, 0, none⟩ ∧ wr.frozen? ⟨g, k * 2 + 1, none⟩ = false ∧ wr.cell? ⟨g, k * 2 + 1, none⟩ = some (.int .u32 t2) ∧ ∀ x : Int, XorI B w0 n lc lo (wr.setCell ⟨g, k * 2 + 1, none⟩ (.int .u32 x)) := by
  obtain ⟨hb, L', hL, ho⟩ := h
  obtain ⟨t, ht⟩ : ∃ t, L'[k]? = some t := ⟨_, List.getElem?_eq_getElem (by omega)⟩
  rcases ho.2 with ⟨_, h0⟩ | ⟨g, cap, cur, h0, h2, h3, h4, h5, h6, h7⟩
  · omega
  · simp only [Value.slice.injEq] at h0
    obtain ⟨rfl, _, rfl⟩ := h0
    have hc := ho.cells (g := g) rfl (k * 2 + 1) (.int .u32 t.2) (fl_at ht).2
    rw [Go.WideShapes.add_plain, Nat.zero_add] at hc
    refine ⟨g, t.2, rfl, free1 h3, hc, fun x => ⟨below_set hb h2, L'.set k (t.1, x), by simpa using hL, ?_⟩⟩
    rw [← fl_set L' k t x ht]
    exact (ho.stored (k * 2 + 1) (.int .u32 x)).1
theorem freeR_ex (L : SL) (m : Int) : ∃ f b, FreeR L m (.returned (.tuple #[.int .u32 f, .bool b])) := by
  by_cases h : mem L m
  · obtain ⟨t, ht, h1, h2⟩ := h
    exact ⟨_, _, .inl ⟨t, ht, h1, h2, rfl⟩⟩
  · exact ⟨_, _, .inr ⟨h, rfl⟩⟩
/-- The four numbers that are asked. -/
def Four (B : Nat) (w0 : World) (z : Nat) (c0 c1 c2 c3 : Int) (wr : World) : Prop := Below B w0 wr ∧ wr.heap[z]? = some (.cells #[.int .u32 c0, .int .u32 c1, .int .u32 c2, .int .u32 c3] 23 (0, 0))
theorem Four.at {B z k : Nat} {w0 wr : World} {c0 c1 c2 c3 : Int} (h : Four B w0 z c0 c1 c2 c3 wr) (hk : k < 4) : wr.cell? ⟨z, k, none⟩ = some (.int .u32 ([c0, c1, c2, c3].getD k 0)) := by
  obtain ⟨_, h⟩ := h
  rcases (by omega : k = 0 ∨ k = 1 ∨ k = 2 ∨ k = 3) with rfl | rfl | rfl | rfl <;> simp [World.cell?, h]
theorem Four.in {k : Nat} {c0 c1 c2 c3 : Int} (h0 : 0 ≤ c0 ∧ c0 ≤ 4294967295) (h1 : 0 ≤ c1 ∧ c1 ≤ 4294967295) (h2 : 0 ≤ c2 ∧ c2 ≤ 4294967295) (h3 : 0 ≤ c3 ∧ c3 ≤ 4294967295) (hk : k < 4) : 0 ≤ [c0, c1, c2, c3].getD k 0 ∧ [c0, c1, c2, c3].getD k 0 ≤ 4294967295 := by
  rcases (by omega : k = 0 ∨ k = 1 ∨ k = 2 ∨ k = 3) with rfl | rfl | rfl | rfl <;> simpa
theorem Four.below {B z : Nat} {w0 wr w' : World} {c0 c1 c2 c3 : Int} (h : Four B w0 z c0 c1 c2 c3 wr) (hB : B ≤ wr.heap.size) (hb : Below wr.heap.size wr w') : Four B w0 z c0 c1 c2 c3 w' := ⟨h.1.trans (hb.mono hB), keepD h.2 hb⟩
theorem xor_start {w0 w13 w18 : World} {B n lc : Nat} {lo : Option Addr} {L : SL} (ho : w13.ownsRow B 46 2 (.slice lo n lc) n (fl L)) (hn : L.length = n) (h0 : Below B w0 w13) (hB : B ≤ w13.heap.size) (hb : Below w13.heap.size w13 w18) : XorI B w0 n lc lo w18 :=
  ⟨h0.trans (hb.mono hB), L, hn, own_on ho (fun g hg => hb.block g (World.ownsRow.lt ho g hg).2)⟩
def r0 (a b : Int) : Int := if b < a then 1 else 0
def r6 (a b : Int) : Int := if b < a then 1 else 6
theorem cutB_do {w wx : World} {p q z i : Nat} {D : DL} {a b : Int} {c : Bool} {s10 s11 : Value} (h : CutB w p q z D a b c s10 s11 wx) (hD : InD D) (hl : D.length ≤ i) (h0 : 0 ≤ a) (hb : b ≤ 4294967295) (hd : D.length ≤ 100) :
    Calls Try.prog 12 #[.pointer (some ⟨q, 0, none⟩), .int .u32 a, .int .u32 b, .bool c] wx fun e wn => e = .returned (.int .i64 (r0 a b)) ∧ s10 = .int .i64 (r0 a b) ∧ s11 = .int .i64 (r6 a b) ∧ AftI w p q z i a b c wn := by
  rcases h with ⟨hab, rfl, rfl, h⟩ | ⟨hba, rfl, rfl, h⟩
  · have hn : ¬ b < a := by omega
    refine (p_do h hab hd).mono ?_
    rintro e wn ⟨rfl, M, h1, h2, h3⟩
    unfold r0 r6
    rw [if_neg hn, if_neg hn]
    exact ⟨rfl, rfl, rfl, M, _, h1, h2, ind_app hD c h0 hab hb, by rw [List.length_append]; simp only [List.length_singleton]; omega, h3⟩
  · refine (refdo_arg _ a b c wx hba).mono ?_
    rintro e wn ⟨rfl, rfl⟩
    obtain ⟨M, h1, h2, h3⟩ := h
    unfold r0 r6
    rw [if_pos hba, if_pos hba]
    exact ⟨rfl, rfl, rfl, M, D, h1, h2, hD, by omega, h3⟩
theorem do_nil_any (a b : Int) (c : Bool) (w : World) : Calls Try.prog 12 #[.pointer none, .int .u32 a, .int .u32 b, .bool c] w fun e w' => e = .returned (.int .i64 (r6 a b)) ∧ w = w' := by
  unfold r6
  by_cases h : b < a
  · rw [if_pos h]
    exact refdo_arg _ a b c w h
  · rw [if_neg h]
    exact refdo_nil a b c w (by omega)
set_option maxRecDepth 100000 in
set_option maxHeartbeats 4000000 in
theorem plays_law (ao : Option Addr) (ca : Nat) (Ds : DL) (x : Int) (w : World) (hA : Rd3 w ao Ds) (iA : ∀ d ∈ Ds, (0 ≤ d.1 ∧ d.1 ≤ 4294967295) ∧ (0 ≤ d.2.1 ∧ d.2.1 ≤ 4294967295)) (mA : Ds.length ≤ maxLen) (hx : 0 ≤ x ∧ x ≤ 4294967295) :
    Calls Try.prog 3 #[.slice ao Ds.length ca, .int .u32 x] w fun e w' => e = .returned (.bool true) ∧ Below w.heap.size w w' := by
  have HA := Lib.hid (And.intro hA iA)
  unfold maxLen at mA
  obtain ⟨x0, x1⟩ := hx
  obtain ⟨N, hN⟩ : ∃ N, Ds.length = N := ⟨_, rfl⟩
  rw [hN] at mA ⊢
  have HLN := Lib.hid hN
  clear hA iA hN
  go_enter Try.func3, Try.ntmps3
  go_upto_region 5 with (first
    | (go_at_call 8; refine (awake_any w).mono ?_; rintro e w1 ⟨rfl, hb⟩; have A1 := Lib.hid hb; clear hb)
    | (go_at_call 9; refine (new_any w1).mono ?_; rintro e w2 ⟨rfl, h⟩; have N1 := Lib.hid h; clear h))
  obtain ⟨p, hp⟩ : ∃ p, p = w1.heap.size := ⟨_, rfl⟩
  obtain ⟨q, hq⟩ : ∃ q, q = w2.heap.size := ⟨_, rfl⟩
  have HC := Lib.hid (show PlI w p q 0 (w2.alloc (.cells #[.slice none 0 0] 29)) by rw [hp, hq]; exact pl_start w w1 w2 _ A1.out N1.out rfl)
  rw [← hp, ← hq]
  clear hp hq N1 A1
  go_wp2_with fail
  go_loopw [31] (fun u wr => ∃ i : Nat, i ≤ 40 ∧ i ≤ N ∧ u = .int .i64 i ∧ Hid (PlI w p q i wr)) (fun u _ => N - (intOf u).toNat)
  case atStart => exact ⟨0, by omega, by omega, rfl, HC⟩
  case round =>
    obtain ⟨i, hi4, hi, rfl, HI⟩ := hrel
    clear HC
    by_cases hlt : i < N
    · obtain ⟨⟨a, b, c⟩, hd⟩ : ∃ d, Ds[i]? = some d := ⟨_, List.getElem?_eq_getElem (by have := HLN.out; omega)⟩
      obtain ⟨⟨a0, a1⟩, ⟨b0, b1⟩⟩ := HA.out.2 _ (List.mem_of_getElem? hd)
      obtain ⟨g, og, rfl, _, c1, c2, c3⟩ := (HA.out.1.on HI.out.ahead (Nat.le_refl _)) i _ hd
      simp only at a0 a1 b0 b1 c1 c2 c3
      clear hd
      by_cases h40 : i < 40
      · obtain ⟨D, hP, hD, hDl⟩ := HI.out.p1 a b c
        have HP := Lib.hid hP
        have HD := Lib.hid (And.intro hD hDl)
        clear hP hD hDl
        go_upto_region 9 with fail
        obtain ⟨z, hz⟩ : ∃ z, z = wr.heap.size := ⟨_, rfl⟩
        rw [← hz] at HP ⊢
        generalize (wr.alloc (.cells #[.int .u32 a, .int .u32 b, .bool c] 33)) = w9 at HP ⊢
        clear hz
        have hd100 : D.length ≤ 100 := by have := HD.out.2; omega
        go_cut [10, 11] from 38 to 53 (fun s10 s11 wx => CutA w p q z D a b c s10 s11 wx)
        case first =>
          by_cases hab : a ≤ b
          · have hS0 : (w9.cell? ⟨z, 0, none⟩ = some (.int .u32 a) ∧ w9.cell? ⟨z, 1, none⟩ = some (.int .u32 b) ∧ w9.cell? ⟨z, 2, none⟩ = some (.bool c)) ∧ Hid (P2 w.heap.size w p q z D (deedO a b c) D (D ++ [(a, b, true)]) w9) := ⟨PlG.cells HP.out, Lib.hid HP.out.two⟩
            obtain ⟨s1, s2, s3⟩ := hS0.1
            go_region_held3 (fun w' => (w'.cell? ⟨z, 0, none⟩ = some (.int .u32 a) ∧ w'.cell? ⟨z, 1, none⟩ = some (.int .u32 b) ∧ w'.cell? ⟨z, 2, none⟩ = some (.bool c)) ∧ Hid (P2 w.heap.size w p q z D (deedO a b c) D (D ++ [(a, b, true)]) w'))
              (first | exact sN | exact hS0 | exact sx_drew hS0)
              (first
                | (go_at_call_of 10 (Value.pointer none); refine (nil_add1 (by assumption) (by assumption) hab).mono ?_; rintro e wn ⟨rfl, sN, gN⟩)
                | (go_at_call_of 10 (Value.pointer none); refine (nil_add0 (by assumption) hab).mono ?_; rintro e wn ⟨rfl, sN⟩)
                | (go_at_call_of 10 (Value.pointer (some (Addr.mk p 0 none))); refine (set_add1 (by assumption) HD.out.1 hd100 a0 hab b1).mono ?_; rintro e wn ⟨rfl, sN, gN⟩))
            go_step
            go_step
            go_meet
            exact .inl ⟨hab, rfl, rfl, gN.out⟩
          · have hba : b < a := by omega
            obtain ⟨s1, s2, s3⟩ := PlG.cells HP.out
            go_quiet (first | (go_at_call 10; refine Calls.quiet_of_same ((add_arg _ a b _ hba).mono fun _ _ h => ⟨h.1, h.2.symm⟩)))
            go_step
            go_step
            go_meet
            exact .inr ⟨hba, rfl, rfl, HP.out.below (Below.drewN_refl w9 nq)⟩
        case rest =>
          have HA9 := Lib.hid hcut
          obtain ⟨s1, s2, s3⟩ := cutA_cells hcut
          clear hcut
          refine (‹∀ (a : Act) (w : World), Code.wp _ _ _ a w → _› _ _ ?_)
          go_step
          go_cut [10, 11] from 54 to 72 (fun s10 s11 wx => CutB w p q z D a b c s10 s11 wx)
          case first =>
            cases c
            · rcases HA9.out with ⟨hab, rfl, rfl, hP1⟩ | ⟨hba, rfl, rfl, hP1⟩
              · have hS1 : (wc.cell? ⟨z, 0, none⟩ = some (.int .u32 a) ∧ wc.cell? ⟨z, 1, none⟩ = some (.int .u32 b) ∧ wc.cell? ⟨z, 2, none⟩ = some (.bool false)) ∧ Hid (P2 w.heap.size w p q z D (deedO a b false) (D ++ [(a, b, true)]) (D ++ [(a, b, false)]) wc) := ⟨PlG.cells hP1, Lib.hid hP1.two⟩
                clear hP1
                go_upto_region 11 with fail
                go_region_held3 (fun w' => (w'.cell? ⟨z, 0, none⟩ = some (.int .u32 a) ∧ w'.cell? ⟨z, 1, none⟩ = some (.int .u32 b) ∧ w'.cell? ⟨z, 2, none⟩ = some (.bool false)) ∧ Hid (P2 w.heap.size w p q z D (deedO a b false) (D ++ [(a, b, true)]) (D ++ [(a, b, false)]) w'))
                  (first | exact sN | exact hS1 | exact sx_drew hS1)
                  (first
                    | (go_at_call_of 11 (Value.pointer none); refine (nil_drop1 (by assumption) (by assumption) hab).mono ?_; rintro e wn ⟨rfl, sN, gN⟩)
                    | (go_at_call_of 11 (Value.pointer none); refine (nil_drop0 (by assumption) hab).mono ?_; rintro e wn ⟨rfl, sN⟩)
                    | (go_at_call_of 11 (Value.pointer (some (Addr.mk p 0 none))); refine (set_drop1 (by assumption) HD.out.1 hd100 a0 hab b1).mono ?_; rintro e wn ⟨rfl, sN, gN⟩))
                go_step
                go_step
                go_meet
                exact .inl ⟨hab, rfl, rfl, gN.out⟩
              · have HP1 := Lib.hid hP1
                clear hP1
                go_upto_region 11 with fail
                go_quiet (first | (go_at_call 11; refine Calls.quiet_of_same ((drop_arg _ a b _ hba).mono fun _ _ h => ⟨h.1, h.2.symm⟩)))
                go_step
                go_step
                go_meet
                exact .inr ⟨hba, rfl, rfl, HP1.out.below (Below.drewN_refl wc nq)⟩
            · go_wp2_with fail
              go_meet
              exact HA9.out
          case rest =>
            have HB9 := Lib.hid hcut
            obtain ⟨s1, s2, s3⟩ := cutB_cells hcut
            clear hcut HA9
            go_upto_region 13 with (go_at_call 12; refine (cutB_do HB9.out HD.out.1 HD.out.2 a0 b1 hd100).mono ?_; rintro e w12 ⟨rfl, e10, e11, h12⟩; subst e10; subst e11; have H12 := Lib.hid h12; clear h12)
            obtain ⟨L, D1, hPl, hSp, hIn, hDl, hzo⟩ := H12.out
            have HPL := Lib.hid (And.intro hPl (And.intro hSp (And.intro hIn (And.intro hDl hzo))))
            have hL1 : L.length ≤ 1000 := by have := spof_len hSp hIn; omega
            have hD1 : D1.length ≤ 200 := by omega
            obtain ⟨n, hn⟩ : ∃ n, L.length = n := ⟨_, rfl⟩
            have HNL := Lib.hid hn
            have HSO := Lib.hid (is_spans_own hPl.is hL1)
            rw [hn] at HSO
            clear hPl hSp hIn hDl hzo hn HB9 H12
            go_upto_region 14 with (go_at_call 13; refine HSO.out.mono ?_; rintro e w13 ⟨lo, lc, rfl, ho, hb⟩; have H13 := Lib.hid (And.intro ho hb); clear ho hb)
            have HRS := Lib.hid (refspans_one (t := 27) ((HPL.out.1.below (H13.out.2.alloc H13.out.2.size (.cells #[.pointer (some ⟨q, 0, none⟩)] 27))).ref) (heap_alloc_new w13 _) HPL.out.2.2.1 hD1)
            go_upto_region 15 with (go_at_call 14; refine HRS.out.mono ?_; rintro e w14 ⟨S, hS1, _, wo, wc2, rfl, hr, hb⟩; have hSL := (spof_one hS1 HPL.out.2.1).symm; subst hSL; rw [HNL.out]; have H14 := Lib.hid (And.intro hr (And.intro (H13.out.2.alloc H13.out.2.size (.cells #[.pointer (some ⟨q, 0, none⟩)] 27)) hb)); clear hr hb hS1)
            have hB14 : Below w12.heap.size w12 w14 := H14.out.2.1.trans (H14.out.2.2.mono H14.out.2.1.size)
            have HB14 := Lib.hid hB14
            obtain ⟨s1, s2, s3⟩ := cellsO (keepD HPL.out.2.2.2.2 hB14)
            have HF := Lib.hid (reads_facts HPL.out.1 HPL.out.2.1 HPL.out.2.2.1 hD1 HNL.out hL1 hB14 (lo := lo) (lc := lc) (wo := wo) (wc2 := wc2) (by
              have hr2 := rd_own_n HNL.out H13.out.1
              exact (hr2.on ((Below.refl w13.heap.size w13).alloc (Nat.le_refl _) (.cells #[.pointer (some ⟨q, 0, none⟩)] 27)) (Nat.le_refl _)).on H14.out.2.2 (Nat.le_refl _)) H14.out.1)
            clear hB14
            go_upto_region 17 with (first
              | (go_at_call 12; refine (do_nil_any a b c w14).mono ?_; rintro e _ ⟨rfl, rfl⟩)
              | (go_at_call 16; refine (HF.out.cv w14 (Below.refl _ _)).mono ?_; rintro e w15 ⟨bo, cap2, rfl, hr, hb⟩; have H15 := Lib.hid (And.intro hr hb); clear hr hb)
              | (go_at_call 15; refine (HF.out.sm w15 bo cap2 H15.out.2 H15.out.1).mono ?_; rintro e w16 ⟨rfl, hb⟩; have H16 := Lib.hid (H15.out.2.trans (hb.mono H15.out.2.size)); clear hb)
              | (go_at_call 17; refine (HF.out.ct w16 (HB14.out.trans (H16.out.mono HB14.out.size))).mono ?_; rintro e w17 ⟨rfl, hb⟩; have H17 := Lib.hid (H16.out.trans (hb.mono H16.out.size)); clear hb)
              | (go_at_call 18; refine (HF.out.c2 w17 H17.out).mono ?_; rintro e w18 ⟨rfl, hb⟩; have H18 := Lib.hid (H17.out.trans (hb.mono H17.out.size)); clear hb))
            have hn1 : n ≤ 1000 := by rw [← HNL.out]; exact hL1
            have HX0 := Lib.hid (xor_start H13.out.1 HNL.out H13.out.2 H13.out.2.size ((((Below.refl w13.heap.size w13).alloc (Nat.le_refl _) (.cells #[.pointer (some ⟨q, 0, none⟩)] 27)).trans (H14.out.2.2.mono (by simp))).trans (H18.out.mono (Nat.le_trans (by simp) H14.out.2.2.size))))
            go_wp2_with fail
            go_loopw [120] (fun u wr => ∃ k : Nat, k ≤ n ∧ u = .int .i64 k ∧ Hid (XorI w12.heap.size w12 n lc lo wr)) (fun u _ => n - (intOf u).toNat)
            case atStart => exact ⟨0, by omega, rfl, HX0⟩
            case round =>
              obtain ⟨k, hkn, rfl, HK⟩ := hrel
              clear HX0 s1 s2 s3
              by_cases hk : k < n
              · obtain ⟨g0, t2, glo, fz, c0, hset⟩ := HK.out.at hk
                subst glo
                have HSET := Lib.hid hset
                clear hset
                go_wp2_with fail
                go_roundw
                case measure => simp [intOf]; omega
                case rel => exact ⟨k + 1, by omega, rfl, Lib.hid (HSET.out _)⟩
              · obtain rfl : k = n := by omega
                obtain ⟨s1, s2, s3⟩ := cellsO (keepD HPL.out.2.2.2.2 HK.out.1)
                go_wp2_with fail
                have HI0 := Lib.hid (show (0 : Int) ≤ (i : Int) ∧ (i : Int) ≤ 4294967295 by omega)
                have HXB := Lib.hid (show Pl w.heap.size w w12 (fun y => y = z) p q L D1 ∧ SpOf D1 L ∧ InD D1 ∧ D1.length ≤ i + 1 from ⟨HPL.out.1, HPL.out.2.1, HPL.out.2.2.1, HPL.out.2.2.2.1⟩)
                obtain ⟨y, hy⟩ : ∃ y, y = wr.heap.size := ⟨_, rfl⟩
                have H4 := Lib.hid (show Four w12.heap.size w12 y x a b i (wr.alloc (.cells #[.int .u32 x, .int .u32 a, .int .u32 b, .int .u32 i] 23)) from ⟨HK.out.1.alloc HK.out.1.size _, by rw [hy]; exact heap_alloc_new wr _⟩)
                rw [← hy]
                clear hy s1 s2 s3 HK
                go_loopw [143] (fun u wr => ∃ m : Nat, m ≤ 4 ∧ u = .int .i64 m ∧ Hid (Four w12.heap.size w12 y x a b i wr)) (fun u _ => 4 - (intOf u).toNat)
                case atStart => exact ⟨0, by omega, rfl, H4⟩
                case round =>
                  obtain ⟨m, hm4, rfl, HM⟩ := hrel
                  clear H4
                  by_cases hm : m < 4
                  · have c0 := HM.out.at hm
                    have hmi := Four.in (c0 := x) (c1 := a) (c2 := b) (c3 := i) ⟨x0, x1⟩ ⟨a0, a1⟩ ⟨b0, b1⟩ HI0.out hm
                    generalize [x, a, b, (i : Int)].getD m 0 = num at c0 hmi
                    obtain ⟨f, fb, hfr⟩ := freeR_ex L num
                    have HFR := Lib.hid hfr
                    have HMI := Lib.hid hmi
                    clear hfr hmi
                    go_wp2_with (first
                      | (go_at_call_of 19 (Value.pointer (some (Addr.mk p 0 none))); refine (HF.out.fr wr num HM.out.1).mono ?_; rintro e w25 ⟨hf, hb⟩; have hf2 := free_one HXB.out.2.1.can hf HFR.out; subst hf2; have H25 := Lib.hid (HM.out.below HM.out.1.size hb); clear hf hb)
                      | (go_at_call 20; refine (HF.out.rf w25 num H25.out.1).mono ?_; rintro e w26 ⟨hf, hb⟩; have hf2 := free_one HXB.out.2.1.can hf HFR.out; subst hf2; have H26 := Lib.hid (H25.out.below H25.out.1.size hb); clear hf hb)
                      | (go_at_call_of 19 (Value.pointer none); refine (free_nil num w26).mono ?_; rintro e w27 ⟨rfl, hb⟩; have H27 := Lib.hid (H26.out.below H26.out.1.size hb); clear hb)
                      | (go_at_call_of 21 (Value.pointer (some (Addr.mk p 0 none))); refine (HF.out.hs w27 num H27.out.1).mono ?_; rintro e w28 ⟨rfl, hb⟩; have H28 := Lib.hid (H27.out.below H27.out.1.size hb); clear hb)
                      | (go_at_call 22; refine (HF.out.rh w28 num H28.out.1 HMI.out.1 HMI.out.2).mono ?_; rintro e w29 ⟨rfl, hb⟩; have H29 := Lib.hid (H28.out.below H28.out.1.size hb); clear hb)
                      | (go_at_call_of 21 (Value.pointer none); refine (has_nil num w29).mono ?_; rintro e w30 ⟨rfl, hb⟩; have H30 := Lib.hid (H29.out.below H29.out.1.size hb); clear hb))
                    go_roundw
                    case measure => simp [intOf]; omega
                    case rel => exact ⟨m + 1, by omega, rfl, H30⟩
                  · obtain rfl : m = 4 := by omega
                    have HN := Lib.hid (show PlI w p q (i + 1) wr from ⟨L, D1, (HXB.out.1.below HM.out.1).none, HXB.out.2⟩)
                    go_wp2_with fail
                    go_roundw
                    case measure => simp [intOf]; omega
                    case rel => exact ⟨i + 1, by omega, by omega, rfl, HN⟩
      · clear HA
        go_wp2_with (first
          | (go_at_call 17; refine (count_nil _).mono ?_; rintro e _ ⟨rfl, rfl⟩)
          | (go_at_call 13; refine (spans_nil _).mono ?_; rintro e _ ⟨rfl, rfl⟩))
        go_ret
        exact ⟨rfl, by first | exact HI.out.ahead | exact HI.out.ahead.alloc HI.out.ahead.size _⟩
    · obtain rfl : i = N := by omega
      clear HA
      go_wp2_with (first
        | (go_at_call 17; refine (count_nil _).mono ?_; rintro e _ ⟨rfl, rfl⟩)
        | (go_at_call 13; refine (spans_nil _).mono ?_; rintro e _ ⟨rfl, rfl⟩))
      go_ret
      exact ⟨rfl, HI.out.ahead⟩
end Go.Proofs.Ytgbhdccadelcfaa.Sp
