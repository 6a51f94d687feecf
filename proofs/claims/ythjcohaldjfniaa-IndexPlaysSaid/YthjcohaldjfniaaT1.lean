/- index: an index beside the document's list. -/
import Derived.Test.YthjcohaldjfniaaR4
namespace Go.Proofs.Ythjcohaldjfniaa.Ix
open Go Go.RowKit
open Pq (Pg pv fq)
open It (fl)
def Tw (w : World) (x : Nat) (A : IL) (y : Nat) (L : IL) (wr : World) : Prop :=
  ∃ Fx Fy v, Idx wr w.heap.size Fx x A ∧ RefAt wr w.heap.size Fy y v L ∧ (∀ k, Fx k → ¬ Fy k) ∧ Below w.heap.size w wr
theorem Tw.ahead {w wr : World} {x y : Nat} {A L : IL} (h : Tw w x A y L wr) : Below w.heap.size w wr := by
  obtain ⟨_, _, _, _, _, _, h⟩ := h; exact h
theorem Tw.up {w wr : World} {x y : Nat} {A L : IL} (h : Tw w x A y L wr) : Sorted A := by
  obtain ⟨_, _, _, ⟨_, _, h1, rfl⟩, _⟩ := h
  exact h1.fit.up
theorem Tw.below {w wr w' : World} {x y : Nat} {A L : IL} (h : Tw w x A y L wr) (hb : Below wr.heap.size wr w') : Tw w x A y L w' := by
  obtain ⟨Fx, Fy, v, h1, h2, h3, h4⟩ := h
  exact ⟨Fx, Fy, v, h1.on (below_any (G := fun _ => False) hb) (fun _ _ => id), h2.below hb, h3, h4.trans (hb.mono h4.size)⟩
theorem Tw.one {w wr : World} {x y : Nat} {A L : IL} (h : Tw w x A y L wr) : St w x A wr := by
  obtain ⟨Fx, _, _, h1, _, _, h4⟩ := h
  exact ⟨Fx, h1, h4⟩
/-- The document's list, as it stands. -/
theorem Tw.row {w wr : World} {x y : Nat} {A L : IL} (h : Tw w x A y L wr) : ∃ bo cb, wr.cell? ⟨y, 0, none⟩ = some (.slice bo L.length cb) ∧ Rl wr bo L ∧ y < wr.heap.size := by
  obtain ⟨_, _, v, _, h2, _⟩ := h
  obtain ⟨bo, cb, rfl, _, hr⟩ := slice45 h2.row rfl
  exact ⟨bo, cb, by simp [World.cell?, h2.cell], hr, h2.lt⟩
theorem tw_did {w wr w' : World} {x y : Nat} {A L : IL} {Fx Fy : Nat → Prop} {v vv : Value} {X : List Pg} (h1 : IdxAt wr w.heap.size Fx x vv X) (h2 : RefAt wr w.heap.size Fy y v L) (h3 : ∀ k, Fx k → ¬ Fy k) (h4 : Below w.heap.size w wr) (hd : Did wr w.heap.size Fx x A w') : Tw w x A y L w' := by
  obtain ⟨v', F', X', g1, g2, g3, g4⟩ := hd
  refine ⟨F', Fy, v, ⟨v', X', g1, g2⟩, h2.on g4 (fun k hk hk' => h3 k hk' hk), fun k hk hk' => ?_, h4.trans (g4.below h4.size h1.low)⟩
  rcases g3 k hk with h5 | h5
  · exact h3 k h5 hk'
  · have := h2.hi k hk'; omega
theorem tw_rdid {w wr w' : World} {x y : Nat} {A L : IL} {Fx Fy : Nat → Prop} {v : Value} {M : IL} (h1 : Idx wr w.heap.size Fx x A) (h2 : RefAt wr w.heap.size Fy y v L) (h3 : ∀ k, Fx k → ¬ Fy k) (h4 : Below w.heap.size w wr) (hd : RDid wr w.heap.size Fy y M w') : Tw w x A y M w' := by
  obtain ⟨v', F', g1, g3, g4⟩ := hd
  refine ⟨Fx, F', v', h1.on g4 h3, g1, fun k hk hk' => ?_, h4.trans (g4.below h4.size h2.low)⟩
  rcases g3 k hk' with h5 | h5
  · exact h3 k hk h5
  · obtain ⟨_, _, h6, _⟩ := h1
    have := h6.hi k hk; omega
theorem tw_put_x {w wr : World} {x y : Nat} {A L : IL} (h : Tw w x A y L wr) (k u : Int) (hn : A.length < 4096) : Calls Try.prog 10 #[.pointer (some ⟨x, 0, none⟩), .int .u64 k, .int .u64 u] wr fun e w' => e = .returned (.int .i64 0) ∧ Tw w x (putL A k u) y L w' := by
  obtain ⟨Fx, Fy, v, ⟨vv, X, h1, rfl⟩, h2, h3, h4⟩ := h
  refine (put_ok h1 k u (by omega) (.inr hn)).mono ?_
  rintro e w' ⟨rfl, hd⟩
  exact ⟨rfl, tw_did h1 h2 h3 h4 hd⟩
theorem tw_put_y {w wr : World} {x y : Nat} {A L : IL} (h : Tw w x A y L wr) (k u : Int) (hs : Sorted L) (hn : L.length < 4096) : Calls Try.prog 11 #[.pointer (some ⟨y, 0, none⟩), .int .u64 k, .int .u64 u] wr fun e w' => e = .returned (.int .i64 0) ∧ Tw w x A y (putL L k u) w' := by
  obtain ⟨Fx, Fy, v, h1, h2, h3, h4⟩ := h
  refine (rput_ok h2 k u hs (by omega) (.inr hn)).mono ?_
  rintro e w' ⟨rfl, hd⟩
  exact ⟨rfl, tw_rdid h1 h2 h3 h4 hd⟩
theorem tw_del_x {w wr : World} {x y : Nat} {A L : IL} (h : Tw w x A y L wr) (k : Int) (hn : A.length ≤ 4096) (hh : hasL A k) : Calls Try.prog 12 #[.pointer (some ⟨x, 0, none⟩), .int .u64 k] wr fun e w' => e = .returned (.int .i64 0) ∧ Tw w x (delL A k) y L w' := by
  obtain ⟨Fx, Fy, v, ⟨vv, X, h1, rfl⟩, h2, h3, h4⟩ := h
  refine (del_ok h1 k (by omega) hh).mono ?_
  rintro e w' ⟨rfl, hd⟩
  exact ⟨rfl, tw_did h1 h2 h3 h4 hd⟩
theorem tw_del_x0 {w wr : World} {x y : Nat} {A L : IL} (h : Tw w x A y L wr) (k : Int) (hn : A.length ≤ 4096) (hh : ¬ hasL A k) : Calls Try.prog 12 #[.pointer (some ⟨x, 0, none⟩), .int .u64 k] wr fun e w' => e = .returned (.int .i64 6) ∧ Tw w x A y L w' := by
  have h0 := h
  obtain ⟨Fx, Fy, v, ⟨vv, X, h1, rfl⟩, h2, h3, h4⟩ := h
  refine (del_none h1 k (by omega) hh).mono ?_
  rintro e w' ⟨rfl, hd⟩
  exact ⟨rfl, h0.below hd⟩
theorem tw_del_y {w wr : World} {x y : Nat} {A L : IL} (h : Tw w x A y L wr) (k : Int) (hn : L.length ≤ 4096) (hh : hasL L k) : Calls Try.prog 13 #[.pointer (some ⟨y, 0, none⟩), .int .u64 k] wr fun e w' => e = .returned (.int .i64 0) ∧ Tw w x A y (delL L k) w' := by
  obtain ⟨Fx, Fy, v, h1, h2, h3, h4⟩ := h
  refine (rdel_ok h2 k (by omega) hh).mono ?_
  rintro e w' ⟨rfl, hd⟩
  exact ⟨rfl, tw_rdid h1 h2 h3 h4 hd⟩
theorem tw_del_y0 {w wr : World} {x y : Nat} {A L : IL} (h : Tw w x A y L wr) (k : Int) (hn : L.length ≤ 4096) (hh : ¬ hasL L k) : Calls Try.prog 13 #[.pointer (some ⟨y, 0, none⟩), .int .u64 k] wr fun e w' => e = .returned (.int .i64 6) ∧ Tw w x A y L w' := by
  obtain ⟨Fx, Fy, v, h1, h2, h3, h4⟩ := h
  refine (rdel_no h2 k (by omega) hh).mono ?_
  rintro e w' ⟨rfl, hd⟩
  exact ⟨rfl, tw_rdid h1 h2 h3 h4 hd⟩
theorem tw_new {w w1 : World} (h : St w w.heap.size [] w1) : Tw w w.heap.size [] w1.heap.size [] (w1.alloc (.cells #[.slice none 0 0] 30)) := by
  obtain ⟨F, ⟨v, X, h1, h2⟩, h3⟩ := h
  have hb := (Below.refl w1.heap.size w1).alloc (Nat.le_refl _) (.cells #[.slice none 0 0] 30)
  have hsz := h3.size
  exact ⟨F, fun k => k = w1.heap.size, .slice none 0 0, ⟨v, X, h1.below hb, h2⟩, ⟨heap_alloc_new w1 _, World.ownsRow_nil _ _ _ _, by simp; omega, rfl, fun g e => by simp [Value.ownBlock] at e, fun k hk => by subst hk; simp, fun k hk => by subst hk; omega⟩, fun k hk e => by have := h1.hi k hk; omega, h3.trans (hb.mono hsz)⟩
/-- What Pages told, and what paged says of it. -/
theorem tw_pages {w wr : World} {x y : Nat} {L A : IL} (h : Tw w x A y L wr) (hn : A.length ≤ 4096) : Calls Try.prog 20 #[.pointer (some ⟨x, 0, none⟩)] wr fun e w' => (∃ X, Fit X ∧ cont X = A ∧ ToldP wr X e w') ∧ Tw w x A y L w' ∧ Below wr.heap.size wr w' := by
  have h0 := h
  obtain ⟨Fx, Fy, v, ⟨vv, X, h1, rfl⟩, h2, h3, h4⟩ := h
  refine (pages_any h1 (by omega)).mono ?_
  rintro e w' ⟨v', rfl, Y, y1, y2, y3, y4⟩
  have hl : Y.length = X.length := by simpa using congrArg List.length y2
  rw [hl] at y1
  obtain ⟨ao, cap, rfl, _⟩ := Pq.own_slice y1
  exact ⟨⟨X, h1.fit, rfl, ao, cap, Y, rfl, y1, y2, y3⟩, h0.below y4, y4⟩
end Go.Proofs.Ythjcohaldjfniaa.Ix
