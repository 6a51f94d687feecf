/- index: lists that were told are written over, and the index stays. -/
import Derived.Test.YthjcohaldjfniaaU1
import Derived.Test.YthjcohaldjfniaaY1
namespace Go.Proofs.Ythjcohaldjfniaa.Ix
open Go Go.RowKit
open Pq (Pg pv fq)
open It (fl)
def TwB (w : World) (x y : Nat) (L : IL) (B : Nat) (wr : World) : Prop :=
  ∃ Fx Fy v, Idx wr w.heap.size Fx x L ∧ RefAt wr w.heap.size Fy y v L ∧ (∀ k, Fx k → ¬ Fy k) ∧ Below w.heap.size w wr ∧ (∀ k, Fx k ∨ Fy k → k < B) ∧ w.heap.size ≤ B
theorem TwB.tw {w wr : World} {x y B : Nat} {L : IL} (h : TwB w x y L B wr) : Tw w x L y L wr := by
  obtain ⟨Fx, Fy, v, h1, h2, h3, h4, _⟩ := h; exact ⟨Fx, Fy, v, h1, h2, h3, h4⟩
theorem TwB.mk' {w wr : World} {x y : Nat} {L : IL} (h : Tw w x L y L wr) : TwB w x y L wr.heap.size wr := by
  obtain ⟨Fx, Fy, v, h1, h2, h3, h4⟩ := h
  refine ⟨Fx, Fy, v, h1, h2, h3, h4, fun k hk => ?_, h4.size⟩
  rcases hk with hk | hk
  · obtain ⟨_, _, h6, _⟩ := h1; exact h6.hi k hk
  · exact h2.hi k hk
theorem TwB.below {w wr w' : World} {x y B : Nat} {L : IL} (h : TwB w x y L B wr) (hb : Below wr.heap.size wr w') : TwB w x y L B w' := by
  obtain ⟨Fx, Fy, v, h1, h2, h3, h4, h5, h6⟩ := h
  exact ⟨Fx, Fy, v, h1.on (below_any (G := fun _ => False) hb) (fun _ _ => id), h2.below hb, h3, h4.trans (hb.mono h4.size), h5, h6⟩
theorem TwB.set {w wr : World} {x y B : Nat} {L : IL} (h : TwB w x y L B wr) (g j : Nat) (hg : B ≤ g) (u : Value) : TwB w x y L B (wr.setCell ⟨g, j, none⟩ u) := by
  obtain ⟨Fx, Fy, v, h1, h2, h3, h4, h5, h6⟩ := h
  have ht : Turned (fun k => k = g) wr (wr.setCell ⟨g, j, none⟩ u) := Turned.of_grown (grown_set wr g j u) (fun k e => by injection e with e; exact e.symm)
  refine ⟨Fx, Fy, v, h1.on ht (fun k hk e => by have := h5 k (.inl hk); omega), h2.on ht (fun k hk e => by have := h5 k (.inr hk); omega), h3, h4.trans (ht.below h4.size (fun k hk => by omega)), h5, h6⟩
/-- A block of items whose numbers can be read. -/
def Odd (g n : Nat) (wr : World) : Prop := ∃ arr : Array Value, wr.heap[g]? = some (.cells arr 42 (0, 0)) ∧ ∀ j, j < n → ∃ v, arr[j * 2 + 1]? = some (.int .u64 v)
theorem Odd.below {g n : Nat} {wr w' : World} (h : Odd g n wr) (hb : Below wr.heap.size wr w') : Odd g n w' := by
  obtain ⟨arr, h1, h2⟩ := h
  exact ⟨arr, (hb.block g (Array.getElem?_eq_some_iff.1 h1).1).trans h1, h2⟩
theorem Odd.set {g n g' j' : Nat} {wr : World} {u : Int} (h : Odd g n wr) : Odd g n (wr.setCell ⟨g', j' * 2 + 1, none⟩ (.int .u64 u)) := by
  obtain ⟨arr, h1, h2⟩ := h
  by_cases e : g = g'
  · subst e
    refine ⟨_, set_block h1, fun j hj => ?_⟩
    obtain ⟨v, hv⟩ := h2 j hj
    rw [Array.getElem?_setIfInBounds]
    split
    · rename_i h3
      have h4 := (Array.getElem?_eq_some_iff.1 hv).1
      rw [if_pos (by omega)]
      exact ⟨u, rfl⟩
    · exact ⟨v, hv⟩
  · exact ⟨arr, ((grown_set wr g' (j' * 2 + 1) (.int .u64 u)).block g (Array.getElem?_eq_some_iff.1 h1).1 (fun e2 => e (by injection e2))).trans h1, h2⟩
theorem Odd.cell {g n j : Nat} {wr : World} (h : Odd g n wr) (hj : j < n) : (∃ v, wr.cell? ⟨g, j * 2 + 1, none⟩ = some (.int .u64 v)) ∧ wr.frozen? ⟨g, j * 2 + 1, none⟩ = false := by
  obtain ⟨arr, h1, h2⟩ := h
  obtain ⟨v, hv⟩ := h2 j hj
  exact ⟨⟨v, by simp [World.cell?, h1, hv]⟩, free1 h1⟩
theorem odd_row {w : World} {B n cap g : Nat} {L : IL} (h : w.ownsRow B 42 2 (.slice (some ⟨g, 0, none⟩) n cap) n (fl L)) (hn : n = L.length) (h0 : 0 < n) : Odd g n w := by
  subst hn
  obtain ⟨g', cap', cur, e, _, _, h1, h2, _, _, h5⟩ := It.own_block h h0
  simp only [Value.slice.injEq, Option.some.injEq, Addr.mk.injEq, and_true, true_and] at e
  obtain ⟨rfl, rfl⟩ := e
  refine ⟨cur.toArray, h1, fun j hj => ?_⟩
  obtain ⟨_, a2⟩ := It.fl_at (getD_at L j (0, 0) hj)
  rw [← h5, List.getElem?_take, if_pos (by omega)] at a2
  exact ⟨_, by simpa using a2⟩
theorem odd_page {w : World} {t : Pg} (h : PgAt w t) (h0 : 0 < t.P.length) : Odd t.g 1 w := by
  have := odd_row (L := t.P) (h.own (Nat.le_refl _)) rfl h0
  obtain ⟨arr, h1, h2⟩ := this
  exact ⟨arr, h1, fun j hj => h2 j (by omega)⟩
structure PW (w : World) (x y : Nat) (L : IL) (B : Nat) (al : Option Addr) (n : Nat) (ap : Option Addr) (Y : List Pg) (wr : World) : Prop where
  tw : TwB w x y L B wr
  li : 0 < n → ∃ gl, al = some ⟨gl, 0, none⟩ ∧ B ≤ gl ∧ Odd gl n wr
  row : ∀ (j : Nat) (t : Pg), Y[j]? = some t → ∃ g, ap = some ⟨g, 0, none⟩ ∧ ∃ cs : Array Value, wr.heap[g]? = some (.cells cs 52 (0, 0)) ∧ cs[j]? = some (pv t)
  pg : ∀ t ∈ Y, B ≤ t.g ∧ 0 < t.P.length ∧ Odd t.g 1 wr
theorem PW.below {w wr w' : World} {x y B n : Nat} {L : IL} {al ap : Option Addr} {Y : List Pg} (h : PW w x y L B al n ap Y wr) (hb : Below wr.heap.size wr w') : PW w x y L B al n ap Y w' :=
  ⟨h.tw.below hb, fun h0 => by obtain ⟨gl, e, h1, h2⟩ := h.li h0; exact ⟨gl, e, h1, h2.below hb⟩, fun j t ht => by obtain ⟨g, e, cs, h1, h2⟩ := h.row j t ht; exact ⟨g, e, cs, (hb.block g (Array.getElem?_eq_some_iff.1 h1).1).trans h1, h2⟩, fun t ht => ⟨(h.pg t ht).1, (h.pg t ht).2.1, (h.pg t ht).2.2.below hb⟩⟩
theorem PW.set {w wr : World} {x y B n : Nat} {L : IL} {al ap : Option Addr} {Y : List Pg} (h : PW w x y L B al n ap Y wr) {g m : Nat} (ho : Odd g m wr) (hg : B ≤ g) (j : Nat) (u : Int) : PW w x y L B al n ap Y (wr.setCell ⟨g, j * 2 + 1, none⟩ (.int .u64 u)) := by
  refine ⟨h.tw.set g _ hg _, fun h0 => by obtain ⟨gl, e, h1, h2⟩ := h.li h0; exact ⟨gl, e, h1, h2.set⟩, fun i t ht => ?_, fun t ht => ⟨(h.pg t ht).1, (h.pg t ht).2.1, (h.pg t ht).2.2.set⟩⟩
  obtain ⟨gp, e, cs, h1, h2⟩ := h.row i t ht
  obtain ⟨arr, h3, _⟩ := ho
  refine ⟨gp, e, cs, ((grown_set wr g (j * 2 + 1) (.int .u64 u)).block gp (Array.getElem?_eq_some_iff.1 h1).1 (fun e2 => ?_)).trans h1, h2⟩
  injection e2 with e2
  subst e2
  rw [h1] at h3
  simp at h3
theorem PW.rcell {w wr : World} {x y B n : Nat} {L : IL} {al ap : Option Addr} {Y : List Pg} (h : PW w x y L B al n ap Y wr) {j : Nat} {t : Pg} (ht : Y[j]? = some t) : ∃ g, ap = some ⟨g, 0, none⟩ ∧ wr.cell? ⟨g, j, none⟩ = some (pv t) := by
  obtain ⟨g, e, cs, h1, h2⟩ := h.row j t ht
  exact ⟨g, e, by simp [World.cell?, h1, h2]⟩
theorem tw_range {w wr : World} {x y : Nat} {L A : IL} (h : Tw w x A y L wr) (a b : Int) (hn : A.length ≤ 4096) : Calls Try.prog 21 #[.pointer (some ⟨x, 0, none⟩), .int .u64 a, .int .u64 b] wr fun e w' => Told wr (rangeL A a b) e w' ∧ Below wr.heap.size wr w' := by
  obtain ⟨Fx, Fy, v, ⟨vv, X, h1, rfl⟩, h2, h3, h4⟩ := h
  refine (range_all h1 a b (by omega)).mono ?_
  rintro e w' ⟨v', rfl, h5, hb⟩
  obtain ⟨ao, cap, rfl, _⟩ := It.own_slice h5
  exact ⟨⟨ao, cap, rfl, h5⟩, hb⟩
theorem tw_rrange {w wr : World} {x y : Nat} {L A : IL} (h : Tw w x A y L wr) (a b : Int) (hn : L.length ≤ 4096) : Calls Try.prog 23 #[.pointer (some ⟨y, 0, none⟩), .int .u64 a, .int .u64 b] wr (RrE wr (rangeL L a b)) := by
  obtain ⟨Fx, Fy, v, h1, h2, h3, h4⟩ := h
  exact rrange_any h2 a b (by omega)
/-- Where both lists have been told. -/
theorem pw_mk {w wb w5 w6 : World} {x y : Nat} {L M : IL} {X Y : List Pg} {al ap : Option Addr} {cl cp : Nat} (h : Tw w x L y L wb) (hb5 : Below wb.heap.size wb w5) (hb6 : Below w5.heap.size w5 w6) (hl : w5.ownsRow wb.heap.size 42 2 (.slice al M.length cl) M.length (fl M)) (hf : Fit X) (hY : Y.map Pg.P = X.map Pg.P) (hp : w6.ownsRow w5.heap.size 52 1 (.slice ap X.length cp) X.length (fq Y)) (hP : ∀ t ∈ Y, PgAt w6 t ∧ w5.heap.size ≤ t.g) : PW w x y L wb.heap.size al M.length ap Y w6 := by
  refine ⟨((TwB.mk' h).below hb5).below hb6, fun h0 => ?_, fun j t ht => ?_, fun t ht => ⟨Nat.le_trans hb5.size (hP t ht).2, ((fit_map hf hY).2 t ht).1.1, odd_page (hP t ht).1 ((fit_map hf hY).2 t ht).1.1⟩⟩
  · obtain ⟨g, cap, cur, e, hB, _⟩ := It.own_block hl h0
    simp only [Value.slice.injEq] at e
    obtain ⟨rfl, _, _⟩ := e
    exact ⟨g, rfl, hB, (odd_row hl rfl h0).below hb6⟩
  · have hl2 := (fit_map hf hY).1
    have hj := (List.getElem?_eq_some_iff.1 ht).1
    obtain ⟨g, cap, cur, e, _, _, h1, _, _, _, h5⟩ := Pq.own_block hp (by omega)
    simp only [Value.slice.injEq] at e
    obtain ⟨rfl, _, _⟩ := e
    refine ⟨g, rfl, cur.toArray, h1, ?_⟩
    have := Pq.fq_at ht
    rw [← h5, List.getElem?_take, if_pos (by omega)] at this
    simpa using this
end Go.Proofs.Ythjcohaldjfniaa.Ix
