/- span: the law on lists of spans, walked. -/
import Derived.Test.YtgbhdccadelcfaaU7
import Derived.Test.YtgbhdccadelcfaaV1
namespace Go.Proofs.Ytgbhdccadelcfaa.Sp
open Go Go.RowKit
/-- A set and the document's, made of one list. -/
def Pair (nb : Nat) (wr : World) (P Q : Value) : Prop :=
  ∃ p q S D, P = .pointer (some ⟨p, 0, none⟩) ∧ Q = .pointer (some ⟨q, 0, none⟩) ∧ Set2 nb p S wr ∧ RefIs nb wr q D ∧ SpOf D S ∧ InD D ∧ D.length ≤ 25 ∧ S.length ≤ 25
theorem Set2.below {n0 p : Nat} {L : SL} {w w' : World} (h : Set2 n0 p L w) (hb : Below w.heap.size w w') : Set2 n0 p L w' := by
  obtain ⟨v, F, h⟩ := h
  exact ⟨v, F, h.below hb⟩
theorem Pair.below {nb : Nat} {wr w' : World} {P Q : Value} (h : Pair nb wr P Q) (hb : Below wr.heap.size wr w') : Pair nb w' P Q := by
  obtain ⟨p, q, S, D, h1, h2, h3, h4, h5⟩ := h
  exact ⟨p, q, S, D, h1, h2, h3.below hb, h4.below hb, h5⟩
theorem Pair.set {nb z j : Nat} {wr : World} {P Q : Value} (h : Pair nb wr P Q) (hz : z < nb) (x : Value) : Pair nb (wr.setCell ⟨z, j, none⟩ x) P Q := by
  obtain ⟨p, q, S, D, h1, h2, ⟨v, F, h3⟩, ⟨G, u, h4⟩, h5⟩ := h
  have ht : Turned (fun j => j = z) wr (wr.setCell ⟨z, j, none⟩ x) := Turned.of_grown (grown_set wr z j x) (fun j e => by injection e with e; exact e.symm)
  exact ⟨p, q, S, D, h1, h2, ⟨v, F, h3.on ht (fun k hk e => by have := h3.low k hk; omega)⟩, ⟨G, u, h4.on ht (fun k hk e => by have := h4.low k hk; omega)⟩, h5⟩
def ListIn (w : World) (v : Value) (X : SL) : Prop := ∃ ao c, v = .slice ao X.length c ∧ X.length ≤ c ∧ c ≤ 2 ^ 63 - 1 ∧ Rd2 w ao X ∧ InB X
/-- Between two lists. -/
def LsI (w : World) (p5 : Nat) (sa sb : Value) (i : Nat) (wr : World) : Prop :=
  Below w.heap.size w wr ∧ (w.heap.size ≤ p5 ∧ p5 + 3 ≤ wr.heap.size) ∧ wr.heap[p5 + 2]? = some (.cells #[sa, sb] 39 (0, 0)) ∧
  ∃ P0 P1 Q0 Q1, wr.heap[p5]? = some (.cells #[P0, P1] 54 (0, 0)) ∧ wr.heap[p5 + 1]? = some (.cells #[Q0, Q1] 55 (0, 0)) ∧ (1 ≤ i → Pair (p5 + 3) wr P0 Q0) ∧ (2 ≤ i → Pair (p5 + 3) wr P1 Q1)
theorem lsi_start {w w1 : World} (hb : Below w.heap.size w w1) (sa sb : Value) : LsI w w1.heap.size sa sb 0 (((w1.alloc (.cells #[.pointer none, .pointer none] 54)).alloc (.cells #[.pointer none, .pointer none] 55)).alloc (.cells #[sa, sb] 39)) := by
  have hs := hb.size
  refine ⟨((hb.alloc hs _).alloc (by simp; omega) _).alloc (by simp; omega) _, ⟨hs, by simp⟩, ?_, .pointer none, .pointer none, .pointer none, .pointer none, ?_, ?_, fun h => by omega, fun h => by omega⟩
  · have := heap_alloc_new ((w1.alloc (.cells #[.pointer none, .pointer none] 54)).alloc (.cells #[.pointer none, .pointer none] 55)) (.cells #[sa, sb] 39)
    simpa using this
  · rw [heap_alloc_old _ _ (by simp; omega), heap_alloc_old _ _ (by simp), heap_alloc_new]
  · rw [heap_alloc_old _ _ (by simp)]
    have := heap_alloc_new (w1.alloc (.cells #[.pointer none, .pointer none] 54)) (.cells #[.pointer none, .pointer none] 55)
    simpa using this
theorem lsi_at {w wr : World} {p5 i : Nat} {sa sb : Value} {A B : SL} (h : LsI w p5 sa sb i wr) (hi : i < 2) (ha : ListIn w sa A) (hb : ListIn w sb B) : ∃ ao n c X, wr.cell? ⟨p5 + 2, i, none⟩ = some (.slice ao n c) ∧ X.length = n ∧ n ≤ c ∧ c ≤ 2 ^ 63 - 1 ∧ Rd2 wr ao X ∧ InB X := by
  obtain ⟨h1, _, h3, _⟩ := h
  rcases (by omega : i = 0 ∨ i = 1) with rfl | rfl
  · obtain ⟨ao, c, e, k1, k2, k3, k4⟩ := ha
    exact ⟨ao, _, c, A, by simp [World.cell?, h3, e], rfl, k1, k2, k3.on h1 (Nat.le_refl _), k4⟩
  · obtain ⟨ao, c, e, k1, k2, k3, k4⟩ := hb
    exact ⟨ao, _, c, B, by simp [World.cell?, h3, e], rfl, k1, k2, k3.on h1 (Nat.le_refl _), k4⟩
theorem Rd2.take {w : World} {ao : Option Addr} {X : SL} (h : Rd2 w ao X) (m : Nat) : Rd2 w ao (X.take m) := fun i t ht => h i t (by
  rw [List.getElem?_take] at ht
  split at ht
  · exact ht
  · cases ht)
def bad (X : SL) : Bool := X.any fun t => decide (t.2 < t.1)
theorem bad_snoc (X : SL) (t : Int × Int) : bad (X ++ [t]) = (bad X || decide (t.2 < t.1)) := by simp [bad]
theorem bad_not {X : SL} (h : bad X = false) : ∀ t ∈ X, t.1 ≤ t.2 := fun t ht => by
  unfold bad at h
  rw [List.any_eq_false] at h
  have := h t ht
  simp at this
  omega
theorem bad_is {X : SL} (h : bad X = true) : ∃ t ∈ X, t.2 < t.1 := by
  unfold bad at h
  rw [List.any_eq_true] at h
  obtain ⟨t, ht, h⟩ := h
  exact ⟨t, ht, by simpa using h⟩
/-- Between two spans of a list. -/
def EI (wr : World) (q : Nat) (Y : SL) (k : Nat) (v : Value) (z : Bool) (wx : World) : Prop :=
  InS wr.heap.size wr q v (Y.take k) (vD (Y.take k)) wx ∧ z = bad (Y.take k) ∧ (Y.take k).length = k
theorem EI.app {wr wx w3 : World} {q k g c : Nat} {Y : SL} {v : Value} {t : Int × Int} (h : InS wr.heap.size wr q v (Y.take k) (vD (Y.take k)) wx) (hk : (Y.take k).length = k) (ht : Y[k]? = some t)
    (ho : w3.ownsRow wr.heap.size 46 2 (.slice (some ⟨g, 0, none⟩) (k + 1) c) (k + 1) (fl (Y.take k) ++ fl [t])) (hg : wx.grownBy w3 v.ownBlock) (hat : v.ownBlock = some g ∨ g = wx.heap.size) :
    InS wr.heap.size wr q (.slice (some ⟨g, 0, none⟩) (k + 1) c) (Y.take (k + 1)) (vD (Y.take k)) w3 := by
  have := ins_app h hk ho hg hat
  rwa [← take_next ht] at this
theorem take_len {Y : SL} {k m : Nat} (hY : Y.length = m) (hk : k ≤ m) : (Y.take k).length = k := by rw [List.length_take]; omega
theorem of_good {ao : Option Addr} {n cap : Nat} {L : SL} {w : World} (hr : Rd2 w ao L) (hn : L.length = n) (hL : n ≤ 1000) (hB : InB L) (hok : ∀ t ∈ L, t.1 ≤ t.2) :
    Calls Try.prog 23 #[.slice ao n cap] w fun e w' => ∃ p M, e = .returned (.tuple #[.pointer (some ⟨p, 0, none⟩), .int .i64 0]) ∧ SetIs w.heap.size w w' p M ∧ (∀ n, mem M n ↔ mem L n) ∧ M.length ≤ n := by
  refine (of_any ao n cap L w hr hn hL hB).mono ?_
  rintro e w' (⟨_, p, rfl, M, k1, k2, k3⟩ | ⟨⟨t, ht, hlt⟩, _⟩)
  · exact ⟨p, M, rfl, k1, k2, by omega⟩
  · have := hok t ht; omega
theorem of_bad {ao : Option Addr} {n cap : Nat} {L : SL} {w : World} (hr : Rd2 w ao L) (hn : L.length = n) (hL : n ≤ 1000) (hB : InB L) (hno : ∃ t ∈ L, t.2 < t.1) :
    Calls Try.prog 23 #[.slice ao n cap] w fun e w' => e = .returned (.tuple #[.pointer none, .int .i64 1]) ∧ Below w.heap.size w w' := by
  refine (of_any ao n cap L w hr hn hL hB).mono ?_
  rintro e w' (⟨hok, _⟩ | ⟨_, rfl, hb⟩)
  · obtain ⟨t, ht, hlt⟩ := hno
    have := hok t ht; omega
  · exact ⟨rfl, hb⟩
theorem set_heap {w : World} {z j k : Nat} {x : Value} (h : k ≠ z) : (w.setCell ⟨z, j, none⟩ x).heap[k]? = w.heap[k]? := by
  show (w.heap.modify z _)[k]? = _
  rw [Array.getElem?_modify, if_neg (by omega)]
theorem pair_of {n0 b1 b2 p q : Nat} {w1 wx : World} {M : SL} {D : DL} (h : SetIs b1 w1 wx p M) (hr : RefIs b2 wx q D) (h1 : n0 ≤ b1) (h2 : n0 ≤ b2) (hs : SpOf D M) (hd : InD D) (hl : D.length ≤ 25) (hm : M.length ≤ 25) : Pair n0 wx (.pointer (some ⟨p, 0, none⟩)) (.pointer (some ⟨q, 0, none⟩)) := by
  obtain ⟨v, F, k, _⟩ := h
  obtain ⟨G, u, r⟩ := hr
  exact ⟨p, q, M, D, rfl, rfl, ⟨v, F, ⟨⟨k.at_.1, own_base2 k.at_.2 h1⟩, k.can, Nat.le_trans h1 k.base, k.fp, k.fv, k.hi, fun j hj => Nat.le_trans h1 (k.low j hj)⟩⟩,
    ⟨G, u, ⟨r.blk, own_base2 r.row h2, Nat.le_trans h2 r.base, r.fp, r.fv, r.hi, fun j hj => Nat.le_trans h2 (r.low j hj)⟩⟩, hs, hd, hl, hm⟩
theorem lsi_cells {w wo wx : World} {p5 i : Nat} {sa sb P : Value} (h : LsI w p5 sa sb i wo) (hi : i < 2) (hb : Below wo.heap.size wo wx) :
    (∃ a, wx.cell? ⟨p5, i, none⟩ = some a) ∧ wx.frozen? ⟨p5, i, none⟩ = false ∧ (∃ a, (wx.setCell ⟨p5, i, none⟩ P).cell? ⟨p5 + 1, i, none⟩ = some a) ∧ (wx.setCell ⟨p5, i, none⟩ P).frozen? ⟨p5 + 1, i, none⟩ = false := by
  obtain ⟨_, ⟨_, h2⟩, _, P0, P1, Q0, Q1, h4, h5, _⟩ := h
  have e4 := (hb.block p5 (by omega)).trans h4
  have e5 := (hb.block (p5 + 1) (by omega)).trans h5
  have e6 : (wx.setCell ⟨p5, i, none⟩ P).heap[p5 + 1]? = _ := (set_heap (by omega)).trans e5
  refine ⟨?_, free1 e4, ?_, free1 e6⟩
  · rcases (by omega : i = 0 ∨ i = 1) with rfl | rfl
    · exact ⟨P0, by simp [World.cell?, e4]⟩
    · exact ⟨P1, by simp [World.cell?, e4]⟩
  · rcases (by omega : i = 0 ∨ i = 1) with rfl | rfl
    · exact ⟨Q0, by simp [World.cell?, e6]⟩
    · exact ⟨Q1, by simp [World.cell?, e6]⟩
theorem lsi_put {w wo wx : World} {p5 i : Nat} {sa sb P Q : Value} (h : LsI w p5 sa sb i wo) (hi : i < 2) (hb : Below wo.heap.size wo wx) (hp : Pair (p5 + 3) wx P Q) : LsI w p5 sa sb (i + 1) ((wx.setCell ⟨p5, i, none⟩ P).setCell ⟨p5 + 1, i, none⟩ Q) := by
  obtain ⟨h1, ⟨h0, h2⟩, h3, P0, P1, Q0, Q1, h4, h5, h6, h7⟩ := h
  have e3 := (hb.block (p5 + 2) (by omega)).trans h3
  have e4 := (hb.block p5 (by omega)).trans h4
  have e5 := (hb.block (p5 + 1) (by omega)).trans h5
  have hs := hb.size
  have pu : ∀ {A B : Value}, Pair (p5 + 3) wx A B → Pair (p5 + 3) ((wx.setCell ⟨p5, i, none⟩ P).setCell ⟨p5 + 1, i, none⟩ Q) A B := fun h => (h.set (by omega) P).set (by omega) Q
  have f4 : ((wx.setCell ⟨p5, i, none⟩ P).setCell ⟨p5 + 1, i, none⟩ Q).heap[p5]? = some (.cells (#[P0, P1].setIfInBounds i P) 54 (0, 0)) := (set_heap (by omega)).trans (set_block e4)
  have f5 : ((wx.setCell ⟨p5, i, none⟩ P).setCell ⟨p5 + 1, i, none⟩ Q).heap[p5 + 1]? = some (.cells (#[Q0, Q1].setIfInBounds i Q) 55 (0, 0)) := set_block ((set_heap (by omega)).trans e5)
  refine ⟨below_set (below_set (h1.trans (hb.mono h1.size)) h0) (by omega), ⟨h0, ?_⟩, ((set_heap (by omega)).trans (set_heap (by omega))).trans e3, ?_⟩
  · have g1 := (grown_set wx p5 i P).size
    have g2 := (grown_set (wx.setCell ⟨p5, i, none⟩ P) (p5 + 1) i Q).size
    omega
  · rcases (by omega : i = 0 ∨ i = 1) with rfl | rfl
    · exact ⟨P, P1, Q, Q1, f4, f5, fun _ => pu hp, fun h => by omega⟩
    · exact ⟨P0, P, Q0, Q, f4, f5, fun _ => pu ((h6 (Nat.le_refl _)).below hb), fun _ => pu hp⟩
/-- Behind Of: the set, the document's set. -/
def Gd (wo : World) (b p q : Nat) (w1 : World) (M : SL) (D : DL) (wx : World) : Prop := Below wo.heap.size wo wx ∧ SetIs b w1 wx p M ∧ RefIs wo.heap.size wx q D
theorem Gd.below {wo w1 wx w' : World} {b p q : Nat} {M : SL} {D : DL} (h : Gd wo b p q w1 M D wx) (hb : Below wx.heap.size wx w') : Gd wo b p q w1 M D w' := ⟨h.1.trans (hb.mono h.1.size), h.2.1.below hb, h.2.2.below hb⟩
theorem ref_m {wo w1 wx : World} {b p q z : Nat} {M : SL} {D : DL} {t : TypeId} (h : Gd wo b p q w1 M D wx) (hs : SpOf D M) (hz : wx.heap[z]? = some (.cells #[.pointer (some ⟨q, 0, none⟩)] t (0, 0))) (hd : InD D) (hl : D.length ≤ 200) :
    Calls Try.prog 14 #[.slice (some ⟨z, 0, none⟩) 1 1] wx fun e w' => ∃ ao cap, e = .returned (.slice ao M.length cap) ∧ Rd2 w' ao M ∧ Below wx.heap.size wx w' := by
  refine (refspans_one h.2.2 hz hd hl).mono ?_
  rintro e w' ⟨S, h1, _, ao, cap, rfl, hr, hb⟩
  rw [spof_one h1 hs] at hr ⊢
  exact ⟨ao, cap, rfl, hr, hb⟩
theorem same_m {ao bo : Option Addr} {ca cb : Nat} {L : SL} {w : World} (h1 : Rd2 w ao L) (h2 : Rd2 w bo L) (h : L.length ≤ 1000) :
    Calls Try.prog 15 #[.slice ao L.length ca, .slice bo L.length cb] w fun e w' => e = .returned (.bool true) ∧ Below w.heap.size w w' := by
  refine (same_any ao bo ca cb L L w h1 h2 h h).mono ?_
  rintro e w' ⟨rfl, hb⟩
  exact ⟨by rw [decide_eq_true rfl], hb⟩
theorem can_in {M : SL} (h : Canon M) : InB M := fun t ht => by
  have := h.2 t ht
  omega
theorem of_can {ao : Option Addr} {cap : Nat} {M : SL} {w : World} (hr : Rd2 w ao M) (hL : M.length ≤ 1000) (hc : Canon M) :
    Calls Try.prog 23 #[.slice ao M.length cap] w fun e w' => ∃ p, e = .returned (.tuple #[.pointer (some ⟨p, 0, none⟩), .int .i64 0]) ∧ SetIs w.heap.size w w' p M := by
  refine (of_good hr rfl hL (can_in hc) (fun t ht => (hc.2 t ht).2.1)).mono ?_
  rintro e w' ⟨p, N, rfl, h1, h2, _⟩
  obtain rfl : N = M := canon_ext h1.can hc h2
  exact ⟨p, rfl, h1⟩
theorem conv_n {ao : Option Addr} {n c : Nat} {L : SL} {w : World} (hL : Rd2 w ao L) (hn : L.length = n) (h : n ≤ 1000) :
    Calls Try.prog 16 #[.slice ao n c] w fun e w' => ∃ bo cap, e = .returned (.slice bo n cap) ∧ Rd2 w' bo L ∧ Below w.heap.size w w' := by
  subst hn
  exact is_conv hL h
theorem same_n {ao bo : Option Addr} {n ca cb : Nat} {L : SL} {w : World} (h1 : Rd2 w ao L) (h2 : Rd2 w bo L) (hn : L.length = n) (h : n ≤ 1000) :
    Calls Try.prog 15 #[.slice ao n ca, .slice bo n cb] w fun e w' => e = .returned (.bool true) ∧ Below w.heap.size w w' := by
  subst hn
  refine (same_any ao bo ca cb L L w h1 h2 h h).mono ?_
  rintro e w' ⟨rfl, hb⟩
  exact ⟨by rw [decide_eq_true rfl], hb⟩
/-- Behind both lists. -/
structure TlI (nb p5 pA pB qA qB : Nat) (SA SB : SL) (DA DB : DL) (wx : World) : Prop where
  a : Set2 nb pA SA wx
  b : Set2 nb pB SB wx
  ra : RefIs nb wx qA DA
  rb : RefIs nb wx qB DB
  h5 : wx.heap[p5]? = some (.cells #[.pointer (some ⟨pA, 0, none⟩), .pointer (some ⟨pB, 0, none⟩)] 54 (0, 0))
  h6 : wx.heap[p5 + 1]? = some (.cells #[.pointer (some ⟨qA, 0, none⟩), .pointer (some ⟨qB, 0, none⟩)] 55 (0, 0))
section
variable {nb p5 pA pB qA qB : Nat} {SA SB : SL} {DA DB : DL} {wx w' : World}
theorem TlI.below (h : TlI nb p5 pA pB qA qB SA SB DA DB wx) (hb : Below wx.heap.size wx w') : TlI nb p5 pA pB qA qB SA SB DA DB w' :=
  ⟨h.a.below hb, h.b.below hb, h.ra.below hb, h.rb.below hb, keepD h.h5 hb, keepD h.h6 hb⟩
theorem TlI.cells (h : TlI nb p5 pA pB qA qB SA SB DA DB wx) : (wx.cell? ⟨p5, 0, none⟩ = some (.pointer (some ⟨pA, 0, none⟩)) ∧ wx.cell? ⟨p5, 1, none⟩ = some (.pointer (some ⟨pB, 0, none⟩))) ∧ wx.cell? ⟨p5 + 1, 0, none⟩ = some (.pointer (some ⟨qA, 0, none⟩)) ∧ wx.cell? ⟨p5 + 1, 1, none⟩ = some (.pointer (some ⟨qB, 0, none⟩)) := by
  refine ⟨⟨?_, ?_⟩, ?_, ?_⟩ <;> simp [World.cell?, h.h5, h.h6]
theorem TlI.sets {z : Nat} {t : TypeId} (h : TlI nb p5 pA pB qA qB SA SB DA DB wx) (hz : wx.heap[z]? = some (.cells #[.pointer (some ⟨qA, 0, none⟩), .pointer (some ⟨qB, 0, none⟩)] t (0, 0))) : Sets nb wx (some ⟨z, 0, none⟩) [(qA, DA), (qB, DB)] := fun i q hq => by
  have hl := (Array.getElem?_eq_some_iff.1 hz).1
  match i, hq with
  | 0, hq => simp at hq; subst hq; exact ⟨⟨z, 0, rfl, hl, by simp [World.cell?, hz]⟩, h.ra⟩
  | 1, hq => simp at hq; subst hq; exact ⟨⟨z, 0, rfl, hl, by simp [World.cell?, hz]⟩, h.rb⟩
  | i + 2, hq => simp at hq
/-- Behind the three meets: what the document says, both sets, what they have together. -/
def StF (nb p5 pA pB qA qB : Nat) (SA SB : SL) (DA DB : DL) (b1 p1 b2 p2 : Nat) (u1 u2 : World) (ro : Option Addr) (R : SL) (wx : World) : Prop :=
  TlI nb p5 pA pB qA qB SA SB DA DB wx ∧ SetIs b1 u1 wx p1 R ∧ SetIs b2 u2 wx p2 R ∧ Rd2 wx ro R
theorem StF.below {b1 p1 b2 p2 : Nat} {u1 u2 : World} {ro : Option Addr} {R : SL} (h : StF nb p5 pA pB qA qB SA SB DA DB b1 p1 b2 p2 u1 u2 ro R wx) (hb : Below wx.heap.size wx w') : StF nb p5 pA pB qA qB SA SB DA DB b1 p1 b2 p2 u1 u2 ro R w' :=
  ⟨h.1.below hb, h.2.1.below hb, h.2.2.1.below hb, h.2.2.2.on hb (Nat.le_refl _)⟩
theorem tl_meet (h : TlI nb p5 pA pB qA qB SA SB DA DB wx) (hA : SA.length ≤ 25) (hB : SB.length ≤ 25) : Calls Try.prog 24 #[.pointer (some ⟨pA, 0, none⟩), .pointer (some ⟨pB, 0, none⟩)] wx (MeetR wx SA SB) :=
  meet_any (h.a.is (Below.refl nb wx)) (h.b.is (Below.refl nb wx)) (by omega) (by omega)
theorem tl_back (h : TlI nb p5 pA pB qA qB SA SB DA DB wx) (hA : SA.length ≤ 25) (hB : SB.length ≤ 25) : Calls Try.prog 24 #[.pointer (some ⟨pB, 0, none⟩), .pointer (some ⟨pA, 0, none⟩)] wx (MeetR wx SB SA) :=
  meet_any (h.b.is (Below.refl nb wx)) (h.a.is (Below.refl nb wx)) (by omega) (by omega)
theorem tl_refs {z : Nat} {t : TypeId} {R : SL} (h : TlI nb p5 pA pB qA qB SA SB DA DB wx) (hz : wx.heap[z]? = some (.cells #[.pointer (some ⟨qA, 0, none⟩), .pointer (some ⟨qB, 0, none⟩)] t (0, 0))) (dA : InD DA) (dB : InD DB) (lA : DA.length ≤ 25) (lB : DB.length ≤ 25) (sA : SpOf DA SA) (sB : SpOf DB SB) (hR : Canon R) (hm : ∀ n, mem R n ↔ mem SA n ∧ mem SB n) :
    Calls Try.prog 14 #[.slice (some ⟨z, 0, none⟩) 2 2] wx fun e w' => ∃ ao cap, e = .returned (.slice ao R.length cap) ∧ Rd2 w' ao R ∧ Below wx.heap.size wx w' := by
  refine (refspans_any nb _ 2 [(qA, DA), (qB, DB)] wx (h.sets hz) (fun q hq => by simp at hq; rcases hq with rfl | rfl <;> assumption) (by simp [total]; omega) (by simp)).mono ?_
  rintro e w' ⟨S, v, rfl, ho, hb, hc, hmS, _⟩
  have hSR : S = R := canon_ext hc hR (fun n => by
    by_cases hn : 0 ≤ n ∧ n ≤ 4294967295
    · rw [hmS n hn.1 hn.2, hm n, sA.mem n hn.1 hn.2, sB.mem n hn.1 hn.2]
      simp [allD]
    · have no : ∀ X, Canon X → ¬ mem X n := fun X hX ⟨t, ht, h1, h2⟩ => by
        have := hX.2 t ht
        omega
      exact ⟨fun h1 => absurd h1 (no S hc), fun h1 => absurd h1 (no R hR)⟩)
  subst hSR
  obtain ⟨ao, cap, rfl, _, hr⟩ := rd_own ho
  exact ⟨ao, cap, rfl, hr, hb⟩
/-- In the last region. -/
def Fin (nb p5 pA pB qA qB : Nat) (SA SB : SL) (DA DB : DL) (b1 : Nat) (u1 : World) (wx : World) : Prop := TlI nb p5 pA pB qA qB SA SB DA DB wx ∧ SetIs b1 u1 wx b1 []
variable {b1 : Nat} {u1 : World}
theorem Fin.below (h : Fin nb p5 pA pB qA qB SA SB DA DB b1 u1 wx) (hb : Below wx.heap.size wx w') : Fin nb p5 pA pB qA qB SA SB DA DB b1 u1 w' := ⟨h.1.below hb, h.2.below hb⟩
theorem fin_s (h : Fin nb p5 pA pB qA qB SA SB DA DB b1 u1 wx) : (wx.cell? ⟨p5, 0, none⟩ = some (.pointer (some ⟨pA, 0, none⟩)) ∧ wx.cell? ⟨p5 + 1, 0, none⟩ = some (.pointer (some ⟨qA, 0, none⟩))) ∧ Hid (Fin nb p5 pA pB qA qB SA SB DA DB b1 u1 wx) := ⟨⟨h.1.cells.1.1, h.1.cells.2.1⟩, Lib.hid h⟩
theorem fin_dr (h : Fin nb p5 pA pB qA qB SA SB DA DB b1 u1 wx) : Fin nb p5 pA pB qA qB SA SB DA DB b1 u1 wx.drew := h.below (Below.refl _ _).drew
theorem fin_al (h : Fin nb p5 pA pB qA qB SA SB DA DB b1 u1 wx) (o : Obj) : Fin nb p5 pA pB qA qB SA SB DA DB b1 u1 (wx.alloc o) := h.below ((Below.refl _ _).alloc (Nat.le_refl _) o)
theorem hz_dr {z : Nat} {o : Obj} (h : wx.heap[z]? = some o) : wx.drew.heap[z]? = some o := h
theorem rd_al {ao : Option Addr} {L : SL} (h : Rd2 wx ao L) (o : Obj) : Rd2 (wx.alloc o) ao L := h.on ((Below.refl _ _).alloc (Nat.le_refl _) o) (Nat.le_refl _)
theorem c13 (h : Fin nb p5 pA pB qA qB SA SB DA DB b1 u1 wx) (hA : SA.length ≤ 25) : Calls Try.prog 13 #[.pointer (some ⟨pA, 0, none⟩)] wx fun e wn => ∃ so sc, e = .returned (.slice so SA.length sc) ∧ Rd2 wn so SA ∧ Below wx.heap.size wx wn ∧ Fin nb p5 pA pB qA qB SA SB DA DB b1 u1 wn := by
  refine (is_spans (h.1.a.is (Below.refl nb wx)) (by omega)).mono ?_
  rintro e wn ⟨so, sc, rfl, hr, hb⟩
  exact ⟨so, sc, rfl, hr, hb, h.below hb⟩
theorem c16 {ao : Option Addr} {c : Nat} (h : Fin nb p5 pA pB qA qB SA SB DA DB b1 u1 wx) (hr : Rd2 wx ao SA) (hA : SA.length ≤ 25) : Calls Try.prog 16 #[.slice ao SA.length c] wx fun e wn => ∃ so sc, e = .returned (.slice so SA.length sc) ∧ Rd2 wn so SA ∧ Below wx.heap.size wx wn ∧ Fin nb p5 pA pB qA qB SA SB DA DB b1 u1 wn := by
  refine (is_conv hr (by omega)).mono ?_
  rintro e wn ⟨so, sc, rfl, hr, hb⟩
  exact ⟨so, sc, rfl, hr, hb, h.below hb⟩
theorem c14 {z : Nat} {t : TypeId} (h : Fin nb p5 pA pB qA qB SA SB DA DB b1 u1 wx) (hz : wx.heap[z]? = some (.cells #[.pointer (some ⟨qA, 0, none⟩)] t (0, 0))) (hs : SpOf DA SA) (hd : InD DA) (hl : DA.length ≤ 25) : Calls Try.prog 14 #[.slice (some ⟨z, 0, none⟩) 1 1] wx fun e wn => ∃ so sc, e = .returned (.slice so SA.length sc) ∧ Rd2 wn so SA ∧ Below wx.heap.size wx wn ∧ Fin nb p5 pA pB qA qB SA SB DA DB b1 u1 wn := by
  refine (refspans_one h.1.ra hz hd (by omega)).mono ?_
  rintro e wn ⟨S, h1, _, ao, cap, rfl, hr, hb⟩
  obtain rfl : S = SA := spof_one h1 hs
  exact ⟨ao, cap, rfl, hr, hb, h.below hb⟩
theorem c15 {ao bo : Option Addr} {ca cb : Nat} (h : Fin nb p5 pA pB qA qB SA SB DA DB b1 u1 wx) (h1 : Rd2 wx ao SA) (h2 : Rd2 wx bo SA) (hA : SA.length ≤ 25) : Calls Try.prog 15 #[.slice ao SA.length ca, .slice bo SA.length cb] wx fun e wn => e = .returned (.bool true) ∧ Fin nb p5 pA pB qA qB SA SB DA DB b1 u1 wn := by
  refine (same_m h1 h2 (by omega)).mono ?_
  rintro e wn ⟨rfl, hb⟩
  exact ⟨rfl, h.below hb⟩
theorem c17 (h : Fin nb p5 pA pB qA qB SA SB DA DB b1 u1 wx) : Calls Try.prog 17 #[.pointer (some ⟨b1, 0, none⟩)] wx fun e wn => e = .returned (.int .u64 0) ∧ Fin nb p5 pA pB qA qB SA SB DA DB b1 u1 wn := by
  refine (is_count h.2 (by simp)).mono ?_
  rintro e wn ⟨rfl, hb⟩
  exact ⟨rfl, h.below hb⟩
end
set_option maxRecDepth 100000 in
set_option maxHeartbeats 4000000 in
theorem lists_law (ao bo : Option Addr) (ca cb : Nat) (La Lb : SL) (w : World) (hA : Rd2 w ao La) (hB : Rd2 w bo Lb) (iA : InB La) (iB : InB Lb) (cA : La.length ≤ ca) (cB : Lb.length ≤ cb) (mA : ca ≤ maxLen) (mB : cb ≤ maxLen) :
    Calls Try.prog 4 #[.slice ao La.length ca, .slice bo Lb.length cb] w fun e w' => e = .returned (.bool true) ∧ Below w.heap.size w w' := by
  have HA := Lib.hid (show ListIn w (.slice ao La.length ca) La from ⟨ao, ca, rfl, cA, mA, hA, iA⟩)
  have HB := Lib.hid (show ListIn w (.slice bo Lb.length cb) Lb from ⟨bo, cb, rfl, cB, mB, hB, iB⟩)
  obtain ⟨sa, hsa⟩ : ∃ sa, sa = Value.slice ao La.length ca := ⟨_, rfl⟩
  obtain ⟨sb, hsb⟩ : ∃ sb, sb = Value.slice bo Lb.length cb := ⟨_, rfl⟩
  rw [← hsa] at HA
  rw [← hsb] at HB
  obtain ⟨la, hla⟩ : ∃ la, La.length = la := ⟨_, rfl⟩
  obtain ⟨lb, hlb⟩ : ∃ lb, Lb.length = lb := ⟨_, rfl⟩
  rw [hla] at hsa ⊢
  rw [hlb] at hsb ⊢
  have HE := Lib.hid (And.intro hsa hsb)
  clear hA hB iA iB hla hlb cA cB mA mB hsa hsb
  go_enter Try.func4, Try.ntmps4
  go_upto_region 5 with (go_at_call 8; refine (awake_any _).mono ?_; rintro e w1 ⟨rfl, hb⟩; have A1 := Lib.hid hb; clear hb)
  have H0 := Lib.hid (lsi_start A1.out sa sb)
  rw [HE.out.1, HE.out.2] at H0
  go_wp2_with fail
  rw [← HE.out.1, ← HE.out.2] at H0
  obtain ⟨p5, hp5⟩ : ∃ p5, p5 = w1.heap.size := ⟨_, rfl⟩
  rw [← hp5] at H0 ⊢
  rw [← HE.out.1, ← HE.out.2]
  clear hp5
  go_loopw [31] (fun u wr => ∃ i : Nat, i ≤ 2 ∧ u = .int .i64 i ∧ Hid (LsI w p5 sa sb i wr)) (fun u _ => 2 - (intOf u).toNat)
  case atStart => exact ⟨0, by omega, rfl, H0⟩
  case round =>
    obtain ⟨i, hi, rfl, HI⟩ := hrel
    clear H0 A1
    obtain ⟨wo, hwo⟩ : ∃ wo, wo = wr := ⟨_, rfl⟩
    subst hwo
    by_cases h2 : i < 2
    · obtain ⟨xo, n, c, X, cz, hn, hc, hm, hr, hX⟩ := lsi_at HI.out h2 HA.out HB.out
      obtain ⟨m, hm'⟩ : ∃ m : Nat, m = min n 25 := ⟨_, rfl⟩
      have HR := Lib.hid (show Rd2 wo xo (X.take m) ∧ InB (X.take m) from And.intro (Rd2.take hr m) (fun t ht => hX t (List.mem_of_mem_take ht)))
      have HXL := Lib.hid (show (X.take m).length = m by rw [List.length_take]; omega)
      have em : min (n : Int) 25 = (m : Int) := by omega
      have m25 : m ≤ 25 := by omega
      have mc : m ≤ c := by omega
      have h2i : (i : Int) < 2 := by omega
      generalize X.take m = Y at HR HXL
      clear hn hr hX hm'
      go_upto_region 13 with fail
      have hin := ins_start (Below.refl wo.heap.size wo) (Nat.le_refl _)
      obtain ⟨q, hq⟩ : ∃ q, q = wo.heap.size := ⟨_, rfl⟩
      have HIN := Lib.hid (show EI wo q Y 0 (.slice none 0 0) false (wo.alloc (.cells #[.slice none 0 0] 29)) from ⟨by rw [hq]; exact hin, rfl, rfl⟩)
      obtain ⟨i0, hi0, hz0, hz1, hz2⟩ := info_parts info46
      have HZ := Lib.hid (And.intro hi0 (And.intro hz0 (And.intro hz1 hz2)))
      rw [← hq]
      clear hin hq hi0 hz0 hz1 hz2 cz hc hm em
      go_loopw [45, 9, 11] (fun u v bd wx => ∃ k : Nat, k ≤ m ∧ u = .int .i64 k ∧ ∃ (so : Option Addr) (c2 : Nat) (z : Bool), v = .slice so k c2 ∧ bd = .bool z ∧ Hid (EI wo q Y k (.slice so k c2) z wx)) (fun u _ _ _ => m - (intOf u).toNat)
      case atStart => exact ⟨0, by omega, rfl, none, 0, false, rfl, rfl, HIN⟩
      case round =>
        obtain ⟨k, hk, rfl, so, c2, z, rfl, rfl, HK⟩ := hrel
        clear HIN
        by_cases hlt : k < m
        · obtain ⟨t, ht⟩ : ∃ t, Y[k]? = some t := ⟨_, List.getElem?_eq_getElem (by have := HXL.out; omega)⟩
          obtain ⟨⟨t0, t1⟩, ⟨t2, t3⟩⟩ := HR.out.2 t (List.mem_of_getElem? ht)
          obtain ⟨b, off, exo, _, c0, c1⟩ := (HR.out.1.on HK.out.1.ahead (Nat.le_refl _)) k t ht
          have hrow := HK.out.1.row
          rw [HK.out.2.2] at hrow
          have HJ := Lib.hid (InS.below (InS.below HK.out.1 ((Below.refl wr.heap.size wr).alloc (Nat.le_refl _) (.cells #[.int .u32 t.1, .int .u32 t.2] 31))) ((Below.refl _ (wr.alloc (.cells #[.int .u32 t.1, .int .u32 t.2] 31))).alloc (Nat.le_refl _) (.cells #[.int .u32 t.1, .int .u32 t.2] 46)))
          have HO := Lib.hid (show ((wr.alloc (.cells #[.int .u32 t.1, .int .u32 t.2] 31)).alloc (.cells #[.int .u32 t.1, .int .u32 t.2] 46)).ownsRow wo.heap.size 46 2 (.slice so k c2) k (fl (Y.take k)) by have := HJ.out.row; rwa [HK.out.2.2] at this)
          have HN := Lib.hid (show ∀ j u, (fl [t])[j]? = some u → ((wr.alloc (.cells #[.int .u32 t.1, .int .u32 t.2] 31)).alloc (.cells #[.int .u32 t.1, .int .u32 t.2] 46)).cell? ((⟨wr.heap.size + 1, 0, none⟩ : Addr).add j) = some u from by
            have e1 : (wr.alloc (.cells #[.int .u32 t.1, .int .u32 t.2] 31)).heap.size = wr.heap.size + 1 := by simp
            rw [← e1]
            exact World.news_of_block (heap_alloc_new (wr.alloc (.cells #[.int .u32 t.1, .int .u32 t.2] 31)) (.cells #[.int .u32 t.1, .int .u32 t.2] 46)))
          have HSZ := Lib.hid (show wo.heap.size ≤ wr.heap.size from HK.out.1.base)
          have HC := Lib.hid (show ((wr.alloc (.cells #[.int .u32 t.1, .int .u32 t.2] 31)).alloc (.cells #[.int .u32 t.1, .int .u32 t.2] 46)).heap[wr.heap.size]? = some (.cells #[.int .u32 t.1, .int .u32 t.2] 31 (0, 0)) by rw [heap_alloc_old _ _ (by simp)]; exact heap_alloc_new wr _)
          have HT := Lib.hid (And.intro ht (fun g (e : (Value.slice so k c2).ownBlock = some g) => (World.ownsRow.lt hrow g e).2))
          subst exo
          clear ht hrow
          go_upto_region 16 with (at_builtin; refine wpList_append_lies _ rfl (.tmp 49) (.tmp 51) 37 rfl wo.heap.size 46 i0 _ 2 8 Try.underlying37 HZ.out.1 HZ.out.2.1 HZ.out.2.2.1 HZ.out.2.2.2 rfl (by decide) _ k (fl (Y.take k)) rfl HO.out ⟨wr.heap.size + 1, 0, none⟩ 1 1 (fl [t]) rfl (by rw [fl_len]; rfl) HN.out (fl_one _) (by decide) (by unfold maxLen; omega) (by omega) (by have := HSZ.out; simp; omega) _ rfl ?_; intro g3 c3 w3 hown3 hgrow3 hat3 _; have H3 := Lib.hid (EI.app HJ.out HK.out.2.2 HT.out.1 hown3 hgrow3 hat3); have hp3 := (hgrow3.block wr.heap.size (by simp; omega) (fun e => by have := HT.out.2 _ e.symm; omega)).trans HC.out; obtain ⟨n1, n2⟩ := near_cellsV hp3; clear hown3 hgrow3 hat3 hp3)
          clear HJ HO HN HSZ HC
          by_cases hab : t.1 ≤ t.2
          · go_wp2_with (go_at_call 12; refine (ins_do H3.out t.1 t.2 true hab (by have := vD_len (Y.take k); have := HK.out.2.2; omega)).mono ?_; rintro e w4 ⟨rfl, h⟩; have H4 := Lib.hid (show EI wo q Y (k + 1) (.slice (some ⟨g3, 0, none⟩) (k + 1) c3) z w4 from ⟨by rw [take_next HT.out.1] at h ⊢; rw [vD_snoc, if_pos hab]; exact h, by rw [take_next HT.out.1, bad_snoc, decide_eq_false (by omega), Bool.or_false]; exact HK.out.2.1, take_len HXL.out (by omega)⟩); clear h)
            go_roundw
            case measure => simp [intOf]; omega
            case rel => exact ⟨k + 1, by omega, rfl, _, _, _, rfl, rfl, H4⟩
          · have hba : t.2 < t.1 := by omega
            have H4 := Lib.hid (show EI wo q Y (k + 1) (.slice (some ⟨g3, 0, none⟩) (k + 1) c3) true w3 from ⟨by have h := H3.out; rw [take_next HT.out.1] at h ⊢; rw [vD_snoc, if_neg hab, List.append_nil]; exact h, by rw [take_next HT.out.1, bad_snoc, decide_eq_true hba, Bool.or_true], take_len HXL.out (by omega)⟩)
            go_wp2_with (go_at_call 12; refine (refdo_arg _ t.1 t.2 true w3 hba).mono ?_; rintro e _ ⟨rfl, rfl⟩)
            go_roundw
            case measure => simp [intOf]; omega
            case rel => exact ⟨k + 1, by omega, rfl, _, _, _, rfl, rfl, H4⟩
        · obtain rfl : k = m := by omega
          have hi := HK.out.1
          rw [List.take_of_length_le (by have := HXL.out; omega)] at hi
          have hz := HK.out.2.1
          rw [List.take_of_length_le (by have := HXL.out; omega)] at hz
          have HS := Lib.hid (And.intro hi hz)
          have hrow := hi.row
          rw [HXL.out] at hrow
          have HRW := Lib.hid (And.intro hrow (rd_row (by have := hi.row; rw [HXL.out] at this; rw [HXL.out]; exact this : wr.ownsRow wo.heap.size 46 2 (.slice so Y.length c2) Y.length (fl Y))))
          have hYk := HXL.out
          have HAH := Lib.hid HS.out.1.ahead
          clear hi hz hrow hk hlt HK
          cases z
          · have HOF := Lib.hid (of_good (cap := c2) HRW.out.2 hYk (by omega) HR.out.2 (bad_not HS.out.2.symm))
            clear hYk
            go_upto_region 19 with (go_at_call 23; refine HOF.out.mono ?_; rintro e w5 ⟨p, M, rfl, hs, hm, hl⟩; have HP := Lib.hid (And.intro hs (And.intro hm hl)); clear hs hm hl)
            have HB5 := Lib.hid (HAH.out.trans (HP.out.1.ahead.mono HAH.out.size))
            clear HOF
            go_upto_region 23 with (first
              | (go_at_call 16; refine (conv_n (HRW.out.2.on HP.out.1.ahead (Nat.le_refl _)) HXL.out (by omega)).mono ?_; rintro e w6 ⟨co, cc, rfl, hr, hb⟩; have H6 := Lib.hid (And.intro hr (And.intro (HB5.out.trans (hb.mono HB5.out.size)) (And.intro (HP.out.1.below hb) hb))); clear hr hb)
              | (go_at_call 15; refine (same_n H6.out.1 (HR.out.1.on H6.out.2.1 (Nat.le_refl _)) HXL.out (by omega)).mono ?_; rintro e w7 ⟨rfl, hb⟩; have H7 := Lib.hid (And.intro (H6.out.2.1.trans (hb.mono H6.out.2.1.size)) (H6.out.2.2.1.below hb)); have H67 := Lib.hid (H6.out.2.2.2.trans (hb.mono H6.out.2.2.2.size)); clear hb))
            have HG7 := Lib.hid (show Gd wo wr.heap.size p q wr M (vD Y) w7 from ⟨H7.out.1, H7.out.2, (HS.out.1.ref.below HP.out.1.ahead).below ((Below.refl _ _).trans (show Below w5.heap.size w5 w7 from H67.out))⟩)
            have HM := Lib.hid (And.intro (vD_sp (bad_not HS.out.2.symm) HP.out.1.can HP.out.2.1) (And.intro (vD_in Y HR.out.2) (And.intro (show (vD Y).length ≤ 25 by have := vD_len Y; have := HXL.out; omega) (And.intro (show M.length ≤ 25 by have := HP.out.2.2; omega) HP.out.1.can))))
            clear H6 H7 H67 HB5
            go_upto_region 25 with (first
              | (go_at_call 13; refine (is_spans HG7.out.2.1 (by have := HM.out.2.2.2.1; omega)).mono ?_; rintro e w8 ⟨so8, sc8, rfl, hr, hb⟩; have H8 := Lib.hid (And.intro hr (HG7.out.below hb)); clear hr hb)
              | (go_at_call 16; refine (is_conv H8.out.1 (by have := HM.out.2.2.2.1; omega)).mono ?_; rintro e w9 ⟨so9, sc9, rfl, hr, hb⟩; have H9 := Lib.hid (And.intro hr (H8.out.2.below hb)); clear hr hb)
              | (go_at_call 14; refine (ref_m (H9.out.2.below ((Below.refl _ _).alloc (Nat.le_refl _) (.cells #[.pointer (some ⟨q, 0, none⟩)] 27))) HM.out.1 (heap_alloc_new w9 _) HM.out.2.1 (by have := HM.out.2.2.1; omega)).mono ?_; rintro e w10 ⟨so10, sc10, rfl, hr, hb⟩; have H10 := Lib.hid (And.intro ((H9.out.1.on ((Below.refl _ _).alloc (Nat.le_refl _) (.cells #[.pointer (some ⟨q, 0, none⟩)] 27)) (Nat.le_refl _)).on hb (Nat.le_refl _)) (And.intro hr ((H9.out.2.below ((Below.refl _ _).alloc (Nat.le_refl _) (.cells #[.pointer (some ⟨q, 0, none⟩)] 27))).below hb))); clear hr hb)
              | (go_at_call 15; refine (same_m H10.out.1 H10.out.2.1 (by have := HM.out.2.2.2.1; omega)).mono ?_; rintro e w11 ⟨rfl, hb⟩; have H11 := Lib.hid (H10.out.2.2.below hb); clear hb))
            clear HG7 H8 H9 H10
            have hbs : M.length ≤ 1000 := by have := HM.out.2.2.2.1; omega
            go_upto_region 26 with (first
              | (go_at_call 13; refine (is_spans H11.out.2.1 hbs).mono ?_; rintro e w12 ⟨so12, sc12, rfl, hr, hb⟩; have H12 := Lib.hid (And.intro hr (H11.out.below hb)); clear hr hb)
              | (go_at_call 23; refine (of_can H12.out.1 hbs HM.out.2.2.2.2).mono ?_; rintro e w13 ⟨p', rfl, hs⟩; have H13 := Lib.hid (And.intro hs (H12.out.2.below hs.ahead)); clear hs))
            clear H12 H11
            go_upto_region 28 with (first
              | (go_at_call 13; refine (is_spans H13.out.1 hbs).mono ?_; rintro e w8 ⟨so8, sc8, rfl, hr, hb⟩; have H8 := Lib.hid (And.intro hr (H13.out.2.below hb)); clear hr hb)
              | (go_at_call 16; refine (is_conv H8.out.1 hbs).mono ?_; rintro e w9 ⟨so9, sc9, rfl, hr, hb⟩; have H9 := Lib.hid (And.intro hr (H8.out.2.below hb)); clear hr hb)
              | (go_at_call 14; refine (ref_m (H9.out.2.below ((Below.refl _ _).alloc (Nat.le_refl _) (.cells #[.pointer (some ⟨q, 0, none⟩)] 27))) HM.out.1 (heap_alloc_new w9 _) HM.out.2.1 (by have := HM.out.2.2.1; omega)).mono ?_; rintro e w10 ⟨so10, sc10, rfl, hr, hb⟩; have H10 := Lib.hid (And.intro ((H9.out.1.on ((Below.refl _ _).alloc (Nat.le_refl _) (.cells #[.pointer (some ⟨q, 0, none⟩)] 27)) (Nat.le_refl _)).on hb (Nat.le_refl _)) (And.intro hr ((H9.out.2.below ((Below.refl _ _).alloc (Nat.le_refl _) (.cells #[.pointer (some ⟨q, 0, none⟩)] 27))).below hb))); clear hr hb)
              | (go_at_call 15; refine (same_m H10.out.1 H10.out.2.1 hbs).mono ?_; rintro e w17 ⟨rfl, hb⟩; have H17 := Lib.hid (H10.out.2.2.below hb); clear hb))
            clear H13 H8 H9 H10
            have hsz := HI.out.2.1.2
            have hso := HS.out.1.base
            have HPR := Lib.hid (pair_of (n0 := p5 + 3) H17.out.2.1 H17.out.2.2 (by omega) hsz HM.out.1 HM.out.2.1 HM.out.2.2.1 HM.out.2.2.2.1)
            obtain ⟨⟨a1, y1⟩, y2, ⟨a2, y3⟩, y4⟩ := lsi_cells (P := .pointer (some ⟨p, 0, none⟩)) HI.out h2 H17.out.1
            have HNX := Lib.hid (lsi_put HI.out h2 H17.out.1 HPR.out)
            clear hsz hso
            go_wp2_with fail
            go_roundw
            case measure => simp [intOf]; omega
            case rel => exact ⟨i + 1, by omega, rfl, HNX⟩
          · have HOF := Lib.hid (of_bad (cap := c2) HRW.out.2 hYk (by omega) HR.out.2 (bad_is HS.out.2.symm))
            clear hYk
            go_upto_region 19 with (go_at_call 23; refine HOF.out.mono ?_; rintro e w5 ⟨rfl, hb⟩; have HP := Lib.hid hb; clear hb)
            have HB5 := Lib.hid (HAH.out.trans (HP.out.mono HAH.out.size))
            clear HOF
            go_wp2_with (first
              | (go_at_call 16; refine (conv_n (HRW.out.2.on HP.out (Nat.le_refl _)) HXL.out (by omega)).mono ?_; rintro e w6 ⟨co, cc, rfl, hr, hb⟩; have H6 := Lib.hid (And.intro hr (HB5.out.trans (hb.mono HB5.out.size))); clear hr hb)
              | (go_at_call 15; refine (same_n H6.out.1 (HR.out.1.on H6.out.2 (Nat.le_refl _)) HXL.out (by omega)).mono ?_; rintro e w7 ⟨rfl, hb⟩; have H7 := Lib.hid (H6.out.2.trans (hb.mono H6.out.2.size)); clear hb))
            go_ret
            exact ⟨rfl, HI.out.1.trans (H7.out.mono HI.out.1.size)⟩
    · obtain rfl : i = 2 := by omega
      obtain ⟨b1, b2, _, P0, P1, Q0, Q1, h5, h6, hA2, hB2⟩ := HI.out
      obtain ⟨pA, qA, SA, DA, rfl, rfl, a1, a2, a3, a4, a5, a6⟩ := hA2 (by omega)
      obtain ⟨pB, qB, SB, DB, rfl, rfl, d1, d2, d3, d4, d5, d6⟩ := hB2 (by omega)
      have HT := Lib.hid (TlI.mk a1 d1 a2 d2 h5 h6)
      have HD := Lib.hid (And.intro a3 (And.intro a4 (And.intro a5 (And.intro a6 (And.intro d3 (And.intro d4 (And.intro d5 d6)))))))
      have HW := Lib.hid b1
      obtain ⟨⟨y1, y2⟩, y3, y4⟩ := HT.out.cells
      clear HI h5 h6 hA2 hB2 a1 a2 a3 a4 a5 a6 d1 d2 d3 d4 d5 d6 b1 b2 HA HB HE
      go_upto_region 31 with (go_at_call 24; refine (tl_meet HT.out HD.out.2.2.2.1 HD.out.2.2.2.2.2.2.2).mono ?_; rintro e w2 ⟨R, rfl, hs, hm, hl⟩; obtain ⟨⟨y1, y2⟩, y3, y4⟩ := (HT.out.below hs.ahead).cells; have H2 := Lib.hid (And.intro (HT.out.below hs.ahead) (And.intro hs hm)); clear hs)
      have HR0 := Lib.hid (And.intro H2.out.2.1.can (And.intro H2.out.2.2 (show R.length ≤ 50 by have := HD.out.2.2.2.1; have := HD.out.2.2.2.2.2.2.2; omega)))
      clear hm hl
      go_upto_region 32 with (go_at_call 24; refine (tl_back H2.out.1 HD.out.2.2.2.1 HD.out.2.2.2.2.2.2.2).mono ?_; rintro e w3 ⟨R2, rfl, hs, hm, hl⟩; obtain rfl : R2 = R := canon_ext hs.can HR0.out.1 (fun n => by rw [hm n, HR0.out.2.1 n, and_comm]); obtain ⟨⟨y1, y2⟩, y3, y4⟩ := (H2.out.1.below hs.ahead).cells; have H3 := Lib.hid (And.intro (H2.out.1.below hs.ahead) (And.intro (H2.out.2.1.below hs.ahead) hs)); clear hs hm hl)
      clear H2
      go_upto_region 33 with (go_at_call 24; refine (meet_nil pA w3).mono ?_; rintro e _ ⟨rfl, rfl⟩)
      have HAL := Lib.hid ((Below.refl w3.heap.size w3).alloc (Nat.le_refl _) (.cells #[.pointer (some ⟨qA, 0, none⟩), .pointer (some ⟨qB, 0, none⟩)] 27))
      go_upto_region 34 with (go_at_call 14; refine (tl_refs (H3.out.1.below HAL.out) (heap_alloc_new w3 _) HD.out.2.1 HD.out.2.2.2.2.2.1 HD.out.2.2.1 HD.out.2.2.2.2.2.2.1 HD.out.1 HD.out.2.2.2.2.1 HR0.out.1 HR0.out.2.1).mono ?_; rintro e w4 ⟨ro, rc, rfl, hr, hb⟩; have H4 := Lib.hid (show StF (p5 + 3) p5 pA pB qA qB SA SB DA DB _ _ _ _ _ _ ro _ w4 from ⟨(H3.out.1.below HAL.out).below hb, (H3.out.2.1.below HAL.out).below hb, (H3.out.2.2.below HAL.out).below hb, hr⟩); clear hr hb)
      clear H3 HAL
      go_upto_region 36 with (first
        | (go_at_call_of 13 (Value.pointer (some (Addr.mk wo.heap.size 0 none))); refine (is_spans H4.out.2.1 (by have := HR0.out.2.2; omega)).mono ?_; rintro e w5 ⟨so5, sc5, rfl, hr, hb⟩; have H5 := Lib.hid (And.intro hr (H4.out.below hb)); clear hr hb)
        | (go_at_call_of 13 (Value.pointer (some (Addr.mk w2.heap.size 0 none))); refine (is_spans H7.out.2.2.1 (by have := HR0.out.2.2; omega)).mono ?_; rintro e w8 ⟨so8, sc8, rfl, hr, hb⟩; have H8 := Lib.hid (And.intro hr (H7.out.below hb)); clear hr hb)
        | (go_at_call 16; have hh := H8; clear hh; refine (is_conv H8.out.1 (by have := HR0.out.2.2; omega)).mono ?_; rintro e w9 ⟨so9, sc9, rfl, hr, hb⟩; have H9 := Lib.hid (And.intro hr (H8.out.2.below hb)); clear hr hb)
        | (go_at_call 16; refine (is_conv H5.out.1 (by have := HR0.out.2.2; omega)).mono ?_; rintro e w6 ⟨so6, sc6, rfl, hr, hb⟩; have H6 := Lib.hid (And.intro hr (H5.out.2.below hb)); clear hr hb)
        | (go_at_call 15; have hh := H9; clear hh; refine (same_m H9.out.1 H9.out.2.2.2.2 (by have := HR0.out.2.2; omega)).mono ?_; rintro e w10 ⟨rfl, hb⟩; have H10 := Lib.hid (H9.out.2.below hb); clear hb)
        | (go_at_call 15; refine (same_m H6.out.1 H6.out.2.2.2.2 (by have := HR0.out.2.2; omega)).mono ?_; rintro e w7 ⟨rfl, hb⟩; have H7 := Lib.hid (H6.out.2.below hb); clear hb))
      clear H4 H5 H6 H7 H8 H9
      go_upto_region 37 with (go_at_call 11; refine (is_drop [] 0 4294967295 H10.out.2.1 canon_nil (fun n => ⟨fun h => absurd h (mem_nil n), fun ⟨⟨t, ht, h1, h2⟩, h3⟩ => by have := HR0.out.1.2 t ht; omega⟩) (by omega) (by omega) (by omega) (by have := HR0.out.2.2; omega)).mono ?_; rintro e w11 ⟨rfl, hs⟩; have H11 := Lib.hid (And.intro (HT.out.below hs.ahead) hs); clear hs)
      have hS0 := fin_s (show Fin (p5 + 3) p5 pA pB qA qB SA SB DA DB wo.heap.size wo w11 from H11.out)
      obtain ⟨s1, s2⟩ := hS0.1
      have l25 := HD.out.2.2.2.1
      go_region_held3 (fun w' => (w'.cell? ⟨p5, 0, none⟩ = some (.pointer (some ⟨pA, 0, none⟩)) ∧ w'.cell? ⟨p5 + 1, 0, none⟩ = some (.pointer (some ⟨qA, 0, none⟩))) ∧ Hid (Fin (p5 + 3) p5 pA pB qA qB SA SB DA DB wo.heap.size wo w'))
        (first | exact sN | exact fin_s (fin_al sN.2.out _) | exact hS0 | exact fin_s (fin_dr hS0.2.out) | exact fin_s (fin_al (fin_dr hS0.2.out) _) | exact fin_s (fin_dr (fin_al hS0.2.out _)) | exact fin_s (fin_al hS0.2.out _))
        (first
          | (go_at_call 13; refine (c13 (by first | exact sN.2.out | exact fin_al sN.2.out _ | exact fin_dr hS0.2.out | exact fin_al (fin_dr hS0.2.out) _ | exact fin_dr (fin_al hS0.2.out _) | exact hS0.2.out | exact fin_al hS0.2.out _) l25).mono ?_; rintro e w13 ⟨so13, sc13, rfl, gr, hb, hf⟩; have sN := fin_s hf; have g13 := Lib.hid gr; have b13 := Lib.hid hb; clear gr hb hf)
          | (go_at_call 16; refine (c16 (by first | exact sN.2.out | exact fin_al sN.2.out _ | exact fin_dr hS0.2.out | exact fin_al (fin_dr hS0.2.out) _ | exact fin_dr (fin_al hS0.2.out _) | exact hS0.2.out | exact fin_al hS0.2.out _) (by first | exact g13.out | exact rd_al g13.out _ | exact g13.out.on b14.out (Nat.le_refl _) | exact (rd_al g13.out _).on b14.out (Nat.le_refl _)) l25).mono ?_; rintro e w16 ⟨so16, sc16, rfl, gr, hb, hf⟩; have sN := fin_s hf; have g16 := Lib.hid gr; have b16 := Lib.hid hb; clear gr hb hf)
          | (go_at_call 14; refine (c14 (by first | exact sN.2.out | exact fin_al sN.2.out _ | exact fin_dr hS0.2.out | exact fin_al (fin_dr hS0.2.out) _ | exact fin_dr (fin_al hS0.2.out _) | exact hS0.2.out | exact fin_al hS0.2.out _) (by first | exact heap_alloc_new _ _ | exact hz_dr (heap_alloc_new _ _) | exact keepD (hz_dr (heap_alloc_new _ _)) b16.out | exact keepD (hz_dr (heap_alloc_new _ _)) b13.out | exact keepD (keepD (hz_dr (heap_alloc_new _ _)) b13.out) b16.out | exact keepD (heap_alloc_new _ _) b16.out | exact keepD (heap_alloc_new _ _) b13.out | exact keepD (keepD (heap_alloc_new _ _) b13.out) b16.out) HD.out.1 HD.out.2.1 HD.out.2.2.1).mono ?_; rintro e w14 ⟨so14, sc14, rfl, gr, hb, hf⟩; have sN := fin_s hf; have g14 := Lib.hid gr; have b14 := Lib.hid hb; clear gr hb hf)
          | (go_at_call 15; refine (c15 (by first | exact sN.2.out | exact fin_al sN.2.out _ | exact fin_dr hS0.2.out | exact fin_al (fin_dr hS0.2.out) _ | exact fin_dr (fin_al hS0.2.out _) | exact hS0.2.out | exact fin_al hS0.2.out _) (by first | exact g16.out | exact g16.out.on b14.out (Nat.le_refl _) | exact (rd_al g16.out _).on b14.out (Nat.le_refl _)) (by first | exact g14.out | exact g14.out.on b16.out (Nat.le_refl _) | exact (g14.out.on b13.out (Nat.le_refl _)).on b16.out (Nat.le_refl _)) l25).mono ?_; rintro e w15 ⟨rfl, hf⟩; have sN := fin_s hf; clear hf)
          | (go_at_call 17; refine (c17 (by first | exact sN.2.out | exact fin_al sN.2.out _ | exact fin_dr hS0.2.out | exact fin_al (fin_dr hS0.2.out) _ | exact fin_dr (fin_al hS0.2.out _) | exact hS0.2.out | exact fin_al hS0.2.out _)).mono ?_; rintro e w17 ⟨rfl, hf⟩; have sN := fin_s hf; clear hf))
      all_goals (go_wp2_with fail; go_ret; exact ⟨rfl, HW.out.trans (sN.2.out.2.ahead.mono HW.out.size)⟩)
end Go.Proofs.Ytgbhdccadelcfaa.Sp
