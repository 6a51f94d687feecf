/- index: an index beside the document's list, and what stays beside them. -/
import Derived.Test.YthjcohaldjfniaaR5
namespace Go.Proofs.Ythjcohaldjfniaa.Ix
open Go Go.RowKit
open Pq (Pg pv fq)
open It (fl)
def TwR (w : World) (x : Nat) (A : IL) (y : Nat) (L : IL) (R : World → Prop) (wr : World) : Prop :=
  ∃ Fx Fy v, Idx wr w.heap.size Fx x A ∧ RefAt wr w.heap.size Fy y v L ∧ (∀ k, Fx k → ¬ Fy k) ∧ Below w.heap.size w wr ∧ ∀ w', Turned (fun k => Fx k ∨ Fy k) wr w' → R w'
section
variable {w wr w' : World} {x y : Nat} {A L : IL} {R : World → Prop}
theorem TwR.tw (h : TwR w x A y L R wr) : Tw w x A y L wr := by
  obtain ⟨Fx, Fy, v, h1, h2, h3, h4, _⟩ := h; exact ⟨Fx, Fy, v, h1, h2, h3, h4⟩
theorem TwR.r (h : TwR w x A y L R wr) : R wr := by
  obtain ⟨Fx, Fy, v, h1, h2, h3, h4, h5⟩ := h; exact h5 _ (Turned.refl _ _)
theorem TwR.below (h : TwR w x A y L R wr) (hb : Below wr.heap.size wr w') : TwR w x A y L R w' := by
  obtain ⟨Fx, Fy, v, h1, h2, h3, h4, h5⟩ := h
  exact ⟨Fx, Fy, v, h1.on (below_any (G := fun _ => False) hb) (fun _ _ => id), h2.below hb, h3, h4.trans (hb.mono h4.size), fun w2 ht => h5 w2 ((below_any hb).trans ht (fun i hi => .inl hi))⟩
theorem TwR.mk_block (h : Tw w x A y L wr) (o : Obj) : TwR w x A y L (fun w' => w'.heap[wr.heap.size]? = some o ∧ wr.heap.size < w'.heap.size) (wr.alloc o) := by
  obtain ⟨Fx, Fy, v, h1, h2, h3, h4⟩ := h
  have hb := (Below.refl wr.heap.size wr).alloc (Nat.le_refl _) o
  refine ⟨Fx, Fy, v, h1.on (below_any (G := fun _ => False) hb) (fun _ _ => id), h2.below hb, h3, h4.trans (hb.mono h4.size), fun w2 ht => ⟨(ht.block wr.heap.size (by simp) (fun hk => ?_)).trans (heap_alloc_new wr o), Nat.lt_of_lt_of_le (by simp) ht.size⟩⟩
  rcases hk with hk | hk
  · obtain ⟨_, _, h6, _⟩ := h1
    have := h6.hi _ hk; omega
  · have := h2.hi _ hk; omega
theorem twr_did {Fx Fy : Nat → Prop} {v vv : Value} {X : List Pg} {M : IL} (h1 : IdxAt wr w.heap.size Fx x vv X) (h2 : RefAt wr w.heap.size Fy y v L) (h3 : ∀ k, Fx k → ¬ Fy k) (h4 : Below w.heap.size w wr) (h5 : ∀ w', Turned (fun k => Fx k ∨ Fy k) wr w' → R w') (hd : Did wr w.heap.size Fx x M w') : TwR w x M y L R w' := by
  obtain ⟨v', F', X', g1, g2, g3, g4⟩ := hd
  refine ⟨F', Fy, v, ⟨v', X', g1, g2⟩, h2.on g4 (fun k hk hk' => h3 k hk' hk), fun k hk hk' => ?_, h4.trans (g4.below h4.size h1.low), fun w2 ht => h5 w2 ((g4.mono (fun i hi => .inl hi)).trans ht (fun i hi => ?_))⟩
  · rcases g3 k hk with h6 | h6
    · exact h3 k h6 hk'
    · have := h2.hi k hk'; omega
  · rcases hi with hi | hi
    · exact (g3 i hi).imp .inl id
    · exact .inl (.inr hi)
theorem twr_rdid {Fx Fy : Nat → Prop} {v : Value} {M : IL} (h1 : Idx wr w.heap.size Fx x A) (h2 : RefAt wr w.heap.size Fy y v L) (h3 : ∀ k, Fx k → ¬ Fy k) (h4 : Below w.heap.size w wr) (h5 : ∀ w', Turned (fun k => Fx k ∨ Fy k) wr w' → R w') (hd : RDid wr w.heap.size Fy y M w') : TwR w x A y M R w' := by
  obtain ⟨v', F', g1, g3, g4⟩ := hd
  refine ⟨Fx, F', v', h1.on g4 h3, g1, fun k hk hk' => ?_, h4.trans (g4.below h4.size h2.low), fun w2 ht => h5 w2 ((g4.mono (fun i hi => .inr hi)).trans ht (fun i hi => ?_))⟩
  · rcases g3 k hk' with h6 | h6
    · exact h3 k hk h6
    · obtain ⟨_, _, h7, _⟩ := h1
      have := h7.hi k hk; omega
  · rcases hi with hi | hi
    · exact .inl (.inl hi)
    · exact (g3 i hi).imp .inr id
theorem twr_put_x (h : TwR w x A y L R wr) (k u : Int) (hn : A.length < 4096) : Calls Try.prog 10 #[.pointer (some ⟨x, 0, none⟩), .int .u64 k, .int .u64 u] wr fun e w' => e = .returned (.int .i64 0) ∧ TwR w x (putL A k u) y L R w' := by
  obtain ⟨Fx, Fy, v, ⟨vv, X, h1, rfl⟩, h2, h3, h4, h5⟩ := h
  refine (put_ok h1 k u (by omega) (.inr hn)).mono ?_
  rintro e w' ⟨rfl, hd⟩
  exact ⟨rfl, twr_did h1 h2 h3 h4 h5 hd⟩
theorem twr_put_y (h : TwR w x A y L R wr) (k u : Int) (hs : Sorted L) (hn : L.length < 4096) : Calls Try.prog 11 #[.pointer (some ⟨y, 0, none⟩), .int .u64 k, .int .u64 u] wr fun e w' => e = .returned (.int .i64 0) ∧ TwR w x A y (putL L k u) R w' := by
  obtain ⟨Fx, Fy, v, h1, h2, h3, h4, h5⟩ := h
  refine (rput_ok h2 k u hs (by omega) (.inr hn)).mono ?_
  rintro e w' ⟨rfl, hd⟩
  exact ⟨rfl, twr_rdid h1 h2 h3 h4 h5 hd⟩
theorem twr_del_x (h : TwR w x A y L R wr) (k : Int) (hn : A.length ≤ 4096) (hh : hasL A k) : Calls Try.prog 12 #[.pointer (some ⟨x, 0, none⟩), .int .u64 k] wr fun e w' => e = .returned (.int .i64 0) ∧ TwR w x (delL A k) y L R w' := by
  obtain ⟨Fx, Fy, v, ⟨vv, X, h1, rfl⟩, h2, h3, h4, h5⟩ := h
  refine (del_ok h1 k (by omega) hh).mono ?_
  rintro e w' ⟨rfl, hd⟩
  exact ⟨rfl, twr_did h1 h2 h3 h4 h5 hd⟩
theorem twr_del_x0 (h : TwR w x A y L R wr) (k : Int) (hn : A.length ≤ 4096) (hh : ¬ hasL A k) : Calls Try.prog 12 #[.pointer (some ⟨x, 0, none⟩), .int .u64 k] wr fun e w' => e = .returned (.int .i64 6) ∧ TwR w x A y L R w' := by
  have h0 := h
  obtain ⟨Fx, Fy, v, ⟨vv, X, h1, rfl⟩, h2, h3, h4, h5⟩ := h
  refine (del_none h1 k (by omega) hh).mono ?_
  rintro e w' ⟨rfl, hd⟩
  exact ⟨rfl, h0.below hd⟩
theorem twr_del_y (h : TwR w x A y L R wr) (k : Int) (hn : L.length ≤ 4096) (hh : hasL L k) : Calls Try.prog 13 #[.pointer (some ⟨y, 0, none⟩), .int .u64 k] wr fun e w' => e = .returned (.int .i64 0) ∧ TwR w x A y (delL L k) R w' := by
  obtain ⟨Fx, Fy, v, h1, h2, h3, h4, h5⟩ := h
  refine (rdel_ok h2 k (by omega) hh).mono ?_
  rintro e w' ⟨rfl, hd⟩
  exact ⟨rfl, twr_rdid h1 h2 h3 h4 h5 hd⟩
theorem twr_del_y0 (h : TwR w x A y L R wr) (k : Int) (hn : L.length ≤ 4096) (hh : ¬ hasL L k) : Calls Try.prog 13 #[.pointer (some ⟨y, 0, none⟩), .int .u64 k] wr fun e w' => e = .returned (.int .i64 6) ∧ TwR w x A y L R w' := by
  obtain ⟨Fx, Fy, v, h1, h2, h3, h4, h5⟩ := h
  refine (rdel_no h2 k (by omega) hh).mono ?_
  rintro e w' ⟨rfl, hd⟩
  exact ⟨rfl, twr_rdid h1 h2 h3 h4 h5 hd⟩
end
/-- What Get answers, both. -/
def GetS (L : IL) (k u : Int) (ok : Bool) : Prop := (ok = true ∧ (k, u) ∈ L) ∨ (ok = false ∧ u = 0 ∧ ¬ hasL L k)
theorem sorted_val {L : IL} (hs : Sorted L) {k u v : Int} (h1 : (k, u) ∈ L) (h2 : (k, v) ∈ L) : u = v := by
  obtain ⟨i, hi, e1⟩ := List.mem_iff_getElem.1 h1
  obtain ⟨j, hj, e2⟩ := List.mem_iff_getElem.1 h2
  rcases Nat.lt_trichotomy i j with h | h | h
  · have := List.pairwise_iff_getElem.1 hs i j hi hj h
    rw [e1, e2] at this; exact absurd this (Int.lt_irrefl _)
  · subst h; rw [e1] at e2; injection e2
  · have := List.pairwise_iff_getElem.1 hs j i hj hi h
    rw [e1, e2] at this; exact absurd this (Int.lt_irrefl _)
theorem GetS.one {L : IL} (hs : Sorted L) {k u u' : Int} {ok ok' : Bool} (h : GetS L k u ok) (h' : GetS L k u' ok') : u' = u ∧ ok' = ok := by
  rcases h with ⟨rfl, h⟩ | ⟨rfl, rfl, h⟩ <;> rcases h' with ⟨rfl, h'⟩ | ⟨rfl, rfl, h'⟩
  · exact ⟨sorted_val hs h' h, rfl⟩
  · exact absurd ⟨_, h, rfl⟩ h'
  · exact absurd ⟨_, h', rfl⟩ h
  · exact ⟨rfl, rfl⟩
def NextS (L : IL) (k : Int) (t : Int × Int) (ok : Bool) : Prop := (ok = true ∧ (nextL L k).head? = some t) ∨ (ok = false ∧ t = (0, 0) ∧ nextL L k = [])
theorem NextS.one {L : IL} {k : Int} {t t' : Int × Int} {ok ok' : Bool} (h : NextS L k t ok) (h' : NextS L k t' ok') : t' = t ∧ ok' = ok := by
  rcases h with ⟨rfl, h⟩ | ⟨rfl, rfl, h⟩ <;> rcases h' with ⟨rfl, h'⟩ | ⟨rfl, rfl, h'⟩
  · rw [h] at h'; injection h' with h'; exact ⟨h'.symm, rfl⟩
  · rw [h'] at h; cases h
  · rw [h] at h'; cases h'
  · exact ⟨rfl, rfl⟩
section
variable {w wr w' : World} {x y : Nat} {L : IL} {R : World → Prop}
theorem twr_get (h : TwR w x L y L R wr) (k : Int) (hn : L.length ≤ 4096) : Calls Try.prog 14 #[.pointer (some ⟨x, 0, none⟩), .int .u64 k] wr fun e w' => (∃ u ok, e = .returned (.tuple #[.int .u64 u, .bool ok]) ∧ GetS L k u ok) ∧ TwR w x L y L R w' := by
  have h0 := h
  obtain ⟨Fx, Fy, v, ⟨vv, X, h1, rfl⟩, h2, h3, h4, h5⟩ := h
  refine (get_any h1 k (by omega)).mono ?_
  rintro e w' ⟨u, ok, rfl, h4, hb⟩
  exact ⟨⟨u, ok, rfl, h4⟩, h0.below hb⟩
theorem twr_rget (h : TwR w x L y L R wr) (k : Int) (hn : L.length ≤ 4096) : Calls Try.prog 15 #[.pointer (some ⟨y, 0, none⟩), .int .u64 k] wr fun e w' => (∃ u ok, e = .returned (.tuple #[.int .u64 u, .bool ok]) ∧ GetS L k u ok) ∧ wr = w' := by
  obtain ⟨Fx, Fy, v, h1, h2, h3, h4, h5⟩ := h
  exact rget_any h2 k (by omega)
theorem twr_next (h : TwR w x L y L R wr) (k : Int) (hn : L.length ≤ 4096) : Calls Try.prog 16 #[.pointer (some ⟨x, 0, none⟩), .int .u64 k] wr fun e w' => (∃ t ok, e = .returned (.tuple #[.agg #[.int .u64 t.1, .int .u64 t.2], .bool ok]) ∧ NextS L k t ok) ∧ TwR w x L y L R w' ∧ Below wr.heap.size wr w' := by
  have h0 := h
  obtain ⟨Fx, Fy, v, ⟨vv, X, h1, rfl⟩, h2, h3, h4, h5⟩ := h
  refine (next_any h1 k (by omega)).mono ?_
  rintro e w' ⟨u, ok, rfl, h4, hb⟩
  exact ⟨⟨u, ok, rfl, h4⟩, h0.below hb, hb⟩
theorem twr_rnext (h : TwR w x L y L R wr) (k : Int) (hn : L.length ≤ 4096) (hk : ∀ e ∈ L, e.1 ≤ 18446744073709551615) : Calls Try.prog 17 #[.pointer (some ⟨y, 0, none⟩), .int .u64 k] wr fun e w' => (∃ t ok, e = .returned (.tuple #[.agg #[.int .u64 t.1, .int .u64 t.2], .bool ok]) ∧ NextS L k t ok) ∧ TwR w x L y L R w' ∧ Below wr.heap.size wr w' := by
  have h0 := h
  obtain ⟨Fx, Fy, v, h1, h2, h3, h4, h5⟩ := h
  refine (rnext_any h2 k (by omega) hk).mono ?_
  rintro e w' ⟨u, ok, rfl, h4, hb⟩
  exact ⟨⟨u, ok, rfl, h4⟩, h0.below hb, hb⟩
end
end Go.Proofs.Ythjcohaldjfniaa.Ix
