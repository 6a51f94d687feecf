/- index: two indexes side by side; lists that were told. -/
import Derived.Test.YthjcohaldjfniaaE1
namespace Go.Proofs.Ythjcohaldjfniaa.Ix
open Go Go.RowKit
open Pq (Pg pv fq)
open It (fl)
theorem sorted_ext {A B : IL} (hA : Sorted A) (hB : Sorted B) (h : ∀ e, e ∈ A ↔ e ∈ B) : A = B := by
  induction A generalizing B with
  | nil =>
    cases B with
    | nil => rfl
    | cons b B => exact absurd ((h b).2 (by simp)) (by simp)
  | cons a A ih =>
    cases B with
    | nil => exact absurd ((h a).1 (by simp)) (by simp)
    | cons b B =>
      obtain ⟨a1, a2⟩ := List.pairwise_cons.1 hA
      obtain ⟨b1, b2⟩ := List.pairwise_cons.1 hB
      have e : a = b := by
        have h1 := (h a).1 (by simp)
        have h2 := (h b).2 (by simp)
        rcases List.mem_cons.1 h1 with h1 | h1
        · exact h1
        · rcases List.mem_cons.1 h2 with h2 | h2
          · exact h2.symm
          · have := a1 b h2
            have := b1 a h1
            omega
      subst e
      rw [ih a2 b2 (fun x => ⟨fun hx => ?_, fun hx => ?_⟩)]
      · have := (h x).1 (List.mem_cons_of_mem _ hx)
        rcases List.mem_cons.1 this with h1 | h1
        · subst h1; exact absurd (a1 x hx) (Int.lt_irrefl _)
        · exact h1
      · have := (h x).2 (List.mem_cons_of_mem _ hx)
        rcases List.mem_cons.1 this with h1 | h1
        · subst h1; exact absurd (b1 x hx) (Int.lt_irrefl _)
        · exact h1
theorem mem_putL_iff (L : IL) (k u : Int) (e : Int × Int) : e ∈ putL L k u ↔ (e ∈ L ∧ e.1 ≠ k) ∨ e = (k, u) := by
  unfold putL
  simp only [List.mem_append, List.mem_cons, List.mem_filter, decide_eq_true_eq]
  constructor
  · rintro (⟨h1, h2⟩ | h | ⟨h1, h2⟩)
    · exact .inl ⟨h1, by omega⟩
    · exact .inr h
    · exact .inl ⟨h1, by omega⟩
  · rintro (⟨h1, h2⟩ | h)
    · rcases Int.lt_or_gt_of_ne h2 with h3 | h3
      · exact .inl ⟨h1, h3⟩
      · exact .inr (.inr ⟨h1, h3⟩)
    · exact .inr (.inl h)
/-- Two indexes of the call's own, apart. -/
def St2 (w : World) (a : Nat) (A : IL) (b : Nat) (L : IL) (wr : World) : Prop :=
  ∃ Fa Fb, Idx wr w.heap.size Fa a A ∧ Idx wr w.heap.size Fb b L ∧ (∀ k, Fa k → ¬ Fb k) ∧ Below w.heap.size w wr
theorem St2.ahead {w wr : World} {a b : Nat} {A L : IL} (h : St2 w a A b L wr) : Below w.heap.size w wr := by
  obtain ⟨_, _, _, _, _, h⟩ := h; exact h
theorem St2.sorted {w wr : World} {a b : Nat} {A L : IL} (h : St2 w a A b L wr) : Sorted A ∧ Sorted L := by
  obtain ⟨_, _, ⟨_, _, h1, rfl⟩, ⟨_, _, h2, rfl⟩, _⟩ := h
  exact ⟨h1.fit.up, h2.fit.up⟩
theorem St2.swap {w wr : World} {a b : Nat} {A L : IL} (h : St2 w a A b L wr) : St2 w b L a A wr := by
  obtain ⟨Fa, Fb, h1, h2, h3, h4⟩ := h
  exact ⟨Fb, Fa, h2, h1, fun k h5 h6 => h3 k h6 h5, h4⟩
theorem St2.one {w wr : World} {a b : Nat} {A L : IL} (h : St2 w a A b L wr) : St w a A wr := by
  obtain ⟨Fa, Fb, h1, h2, h3, h4⟩ := h
  exact ⟨Fa, h1, h4⟩
theorem Idx.on {w w' : World} {B p : Nat} {F G : Nat → Prop} {L : IL} (h : Idx w B F p L) (ht : Turned G w w') (hF : ∀ k, F k → ¬ G k) : Idx w' B F p L := by
  obtain ⟨v, X, h1, h2⟩ := h
  exact ⟨v, X, h1.on ht hF, h2⟩
theorem St2.below {w wr w' : World} {a b : Nat} {A L : IL} (h : St2 w a A b L wr) (hb : Below wr.heap.size wr w') : St2 w a A b L w' := by
  obtain ⟨Fa, Fb, h1, h2, h3, h4⟩ := h
  exact ⟨Fa, Fb, h1.on (below_any (G := fun _ => False) hb) (fun _ _ => id), h2.on (below_any (G := fun _ => False) hb) (fun _ _ => id), h3, h4.trans (hb.mono h4.size)⟩
theorem st2_new {w wr : World} {a : Nat} {A : IL} (h : St w a A wr) : Calls Try.prog 9 #[] wr fun e w' => e = .returned (.pointer (some ⟨wr.heap.size, 0, none⟩)) ∧ St2 w a A wr.heap.size [] w' := by
  obtain ⟨F, h1, h2⟩ := h
  refine (st_new wr).mono ?_
  rintro e w' ⟨rfl, F', h3, h4⟩
  have h5 := h1.on (below_any (G := fun _ => False) h4) (fun _ _ => id)
  refine ⟨rfl, F, F', h5, ?_, ?_, h2.trans (h4.mono h2.size)⟩
  · obtain ⟨v, X, h6, h7⟩ := h3
    exact ⟨v, X, ⟨h6.cell, ⟨h6.row.1, h6.row.2.imp id (fun ⟨g, cap, cur, e, e1, e2⟩ => ⟨g, cap, cur, e, Nat.le_trans h2.size e1, e2⟩)⟩, h6.pgs, h6.one, h6.fit, Nat.le_trans h2.size h6.base, h6.fp, h6.fv, h6.hi, fun k hk => Nat.le_trans h2.size (h6.low k hk)⟩, h7⟩
  · intro k hk hk'
    obtain ⟨_, _, h6, _⟩ := h1
    obtain ⟨_, _, h7, _⟩ := h3
    have := h6.hi k hk
    have := h7.low k hk'
    omega
theorem st2_put {w wr : World} {a b : Nat} {A L : IL} (h : St2 w a A b L wr) (k u : Int) (hn : A.length < 4096) : Calls Try.prog 10 #[.pointer (some ⟨a, 0, none⟩), .int .u64 k, .int .u64 u] wr fun e w' => e = .returned (.int .i64 0) ∧ St2 w a (putL A k u) b L w' := by
  obtain ⟨Fa, Fb, ⟨v, X, h1, rfl⟩, h2, h3, h4⟩ := h
  refine (put_ok h1 k u (by omega) (.inr hn)).mono ?_
  rintro e w' ⟨rfl, v', F', X', g1, g2, g3, g4⟩
  refine ⟨rfl, F', Fb, ⟨v', X', g1, g2⟩, h2.on g4 (fun k hk hk' => h3 k hk' hk), fun k hk hk' => ?_, h4.trans (g4.below h4.size h1.low)⟩
  rcases g3 k hk with h5 | h5
  · exact h3 k h5 hk'
  · obtain ⟨_, _, h6, _⟩ := h2
    have := h6.hi k hk'
    omega
/-- Items that stand in a block from its beginning on. -/
def Rl (w : World) (ao : Option Addr) (L : IL) : Prop := ∀ j e, L[j]? = some e → ∃ g, ao = some ⟨g, 0, none⟩ ∧ g < w.heap.size ∧ w.cell? ⟨g, j * 2, none⟩ = some (.int .u64 e.1) ∧ w.cell? ⟨g, j * 2 + 1, none⟩ = some (.int .u64 e.2)
theorem Rl.on {w w' : World} {ao : Option Addr} {L : IL} (h : Rl w ao L) (hb : Below w.heap.size w w') : Rl w' ao L := by
  intro j e he
  obtain ⟨g, h1, h2, h3, h4⟩ := h j e he
  exact ⟨g, h1, Nat.lt_of_lt_of_le h2 hb.size, (hb.cell (p := ⟨g, j * 2, none⟩) h2).trans h3, (hb.cell (p := ⟨g, j * 2 + 1, none⟩) h2).trans h4⟩
theorem rl_own {w : World} {B n cap : Nat} {ao : Option Addr} {L : IL} (h : w.ownsRow B 42 2 (.slice ao n cap) n (fl L)) (hn : n = L.length) : Rl w ao L := by
  subst hn
  intro j e he
  obtain ⟨ao', c, ev, _, _, hc⟩ := It.own_slice h
  have hj := (List.getElem?_eq_some_iff.1 he).1
  obtain ⟨g, eg, hc2⟩ := hc (by omega)
  simp only [Value.slice.injEq] at ev
  obtain ⟨a1, a2⟩ := It.fl_at he
  exact ⟨g, ev.1.trans eg, World.block_lt_of_cell? w _ (hc2 _ _ a1), hc2 _ _ a1, hc2 _ _ a2⟩
theorem range_full {L : IL} (h : ∀ e ∈ L, 0 ≤ e.1 ∧ e.1 ≤ 18446744073709551615) : rangeL L 0 18446744073709551615 = L := by
  unfold rangeL
  exact filter_all (fun e he => by simpa using h e he)
theorem next_after {L : IL} (hs : Sorted L) {i : Nat} {e : Int × Int} (he : L[i]? = some e) : nextL L (e.1 + 1) = L.drop (i + 1) := by
  obtain ⟨hi, e1⟩ := List.getElem?_eq_some_iff.1 he
  conv => lhs; rw [← List.take_append_drop (i + 1) L]
  refine next_split (fun x hx => ?_) (fun x hx => ?_)
  · obtain ⟨j, hj1, hj2, rfl⟩ := mem_take_get hx
    have := sorted_le hs (show j ≤ i by omega) hi
    rw [show L.getD i (0, 0) = e by simp [he]] at this
    omega
  · obtain ⟨j, hj1, hj2, rfl⟩ := mem_drop_get hx
    have := sorted_get hs (show i < j by omega) hj2
    rw [show L.getD i (0, 0) = e by simp [he]] at this
    omega
end Go.Proofs.Ythjcohaldjfniaa.Ix
