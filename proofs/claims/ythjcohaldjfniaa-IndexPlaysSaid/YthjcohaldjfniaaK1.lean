/- index: an index by what it holds; New; the document's example, walked. -/
import Derived.Test.YthjcohaldjfniaaG3
namespace Go.Proofs.Ythjcohaldjfniaa.Ix
open Go Go.RowKit
open Pq (Pg pv fq)
open It (fl)
def Idx (w : World) (B : Nat) (F : Nat → Prop) (p : Nat) (L : IL) : Prop := ∃ v X, IdxAt w B F p v X ∧ cont X = L
/-- An index of the call's own, and nothing that was there has turned. -/
def St (w : World) (p : Nat) (L : IL) (wr : World) : Prop := ∃ F, Idx wr w.heap.size F p L ∧ Below w.heap.size w wr
theorem St.below {w wr w' : World} {p : Nat} {L : IL} (h : St w p L wr) (hb : Below wr.heap.size wr w') : St w p L w' := by
  obtain ⟨F, ⟨v, X, h1, h2⟩, h3⟩ := h
  exact ⟨F, ⟨v, X, h1.below hb, h2⟩, h3.trans (hb.mono h3.size)⟩
theorem St.ahead {w wr : World} {p : Nat} {L : IL} (h : St w p L wr) : Below w.heap.size w wr := h.choose_spec.2
theorem St.did {w wr w' : World} {p : Nat} {F : Nat → Prop} {v : Value} {X : List Pg} {L : IL} (h : IdxAt wr w.heap.size F p v X) (hb : Below w.heap.size w wr) (hd : Did wr w.heap.size F p L w') : St w p L w' := by
  obtain ⟨v', F', X', h1, h2, h3, h4⟩ := hd
  exact ⟨F', ⟨v', X', h1, h2⟩, hb.trans (h4.below hb.size h.low)⟩
theorem st_new (w : World) : Calls Try.prog 9 #[] w fun e w' => e = .returned (.pointer (some ⟨w.heap.size, 0, none⟩)) ∧ St w w.heap.size [] w' := by
  go_enter Try.func9, Try.ntmps9
  go_wp2
  go_ret
  refine ⟨rfl, fun k => k = w.heap.size, ⟨.slice none 0 0, [], ⟨heap_alloc_new w _, World.ownsRow_nil _ _ _ _, by simp, by simp, ⟨by simp, by simp, by simp [cont, Sorted]⟩, by simp, rfl, fun g e => by simp [Value.ownBlock] at e, fun k hk => by subst hk; simp, fun k hk => by omega⟩, rfl⟩, (Below.refl _ _).alloc (Nat.le_refl _) _⟩
theorem st_put {w wr : World} {p : Nat} {L : IL} (h : St w p L wr) (k u : Int) (hn : L.length < 4096) : Calls Try.prog 10 #[.pointer (some ⟨p, 0, none⟩), .int .u64 k, .int .u64 u] wr fun e w' => e = .returned (.int .i64 0) ∧ St w p (putL L k u) w' := by
  obtain ⟨F, ⟨v, X, h1, rfl⟩, h3⟩ := h
  refine (put_ok h1 k u (by omega) (.inr hn)).mono ?_
  rintro e w' ⟨rfl, hd⟩
  exact ⟨rfl, St.did h1 h3 hd⟩
theorem st_del {w wr : World} {p : Nat} {L : IL} (h : St w p L wr) (k : Int) (hn : L.length ≤ 4096) (hh : hasL L k) : Calls Try.prog 12 #[.pointer (some ⟨p, 0, none⟩), .int .u64 k] wr fun e w' => e = .returned (.int .i64 0) ∧ St w p (delL L k) w' := by
  obtain ⟨F, ⟨v, X, h1, rfl⟩, h3⟩ := h
  refine (del_ok h1 k (by omega) hh).mono ?_
  rintro e w' ⟨rfl, hd⟩
  exact ⟨rfl, St.did h1 h3 hd⟩
theorem st_del_no {w wr : World} {p : Nat} {L : IL} (h : St w p L wr) (k : Int) (hn : L.length ≤ 4096) (hh : ¬ hasL L k) : Calls Try.prog 12 #[.pointer (some ⟨p, 0, none⟩), .int .u64 k] wr fun e w' => e = .returned (.int .i64 6) ∧ St w p L w' := by
  have hs := h
  obtain ⟨F, ⟨v, X, h1, rfl⟩, h3⟩ := h
  refine (del_none h1 k (by omega) hh).mono ?_
  rintro e w' ⟨rfl, hd⟩
  exact ⟨rfl, hs.below hd⟩
theorem st_get {w wr : World} {p : Nat} {L : IL} (h : St w p L wr) (k : Int) (hn : L.length ≤ 4096) : Calls Try.prog 14 #[.pointer (some ⟨p, 0, none⟩), .int .u64 k] wr fun e w' => (∃ u ok, e = .returned (.tuple #[.int .u64 u, .bool ok]) ∧ ((ok = true ∧ (k, u) ∈ L) ∨ (ok = false ∧ u = 0 ∧ ¬ hasL L k))) ∧ St w p L w' := by
  have hs := h
  obtain ⟨F, ⟨v, X, h1, rfl⟩, h3⟩ := h
  refine (get_any h1 k (by omega)).mono ?_
  rintro e w' ⟨u, ok, rfl, h4, hb⟩
  exact ⟨⟨u, ok, rfl, h4⟩, hs.below hb⟩
theorem st_next {w wr : World} {p : Nat} {L : IL} (h : St w p L wr) (k : Int) (hn : L.length ≤ 4096) : Calls Try.prog 16 #[.pointer (some ⟨p, 0, none⟩), .int .u64 k] wr fun e w' => (∃ (t : Int × Int) (ok : Bool), e = .returned (.tuple #[.agg #[.int .u64 t.1, .int .u64 t.2], .bool ok]) ∧ ((ok = true ∧ (nextL L k).head? = some t) ∨ (ok = false ∧ t = (0, 0) ∧ nextL L k = []))) ∧ St w p L w' := by
  have hs := h
  obtain ⟨F, ⟨v, X, h1, rfl⟩, h3⟩ := h
  refine (next_any h1 k (by omega)).mono ?_
  rintro e w' ⟨u, ok, rfl, h4, hb⟩
  exact ⟨⟨u, ok, rfl, h4⟩, hs.below hb⟩
theorem st_len {w wr : World} {p : Nat} {L : IL} (h : St w p L wr) : Calls Try.prog 18 #[.pointer (some ⟨p, 0, none⟩)] wr fun e w' => e = .returned (.int .i64 L.length) ∧ wr = w' := by
  obtain ⟨F, ⟨v, X, h1, rfl⟩, h3⟩ := h
  exact len_any h1
/-- A list that was told: a slice of its own. -/
def Told (w : World) (M : IL) (e : Ending) (w' : World) : Prop := ∃ ao cap, e = .returned (.slice ao M.length cap) ∧ w'.ownsRow w.heap.size 42 2 (.slice ao M.length cap) M.length (fl M)
theorem st_range {w wr : World} {p : Nat} {L : IL} (h : St w p L wr) (a b : Int) (hn : L.length ≤ 4096) : Calls Try.prog 21 #[.pointer (some ⟨p, 0, none⟩), .int .u64 a, .int .u64 b] wr fun e w' => Told wr (rangeL L a b) e w' ∧ St w p L w' := by
  have hs := h
  obtain ⟨F, ⟨v, X, h1, rfl⟩, h3⟩ := h
  refine (range_all h1 a b (by omega)).mono ?_
  rintro e w' ⟨v', rfl, h4, hb⟩
  obtain ⟨ao, cap, rfl, _⟩ := It.own_slice h4
  exact ⟨⟨ao, cap, rfl, h4⟩, hs.below hb⟩
def ToldP (w : World) (X : List Pg) (e : Ending) (w' : World) : Prop := ∃ ao cap Y, e = .returned (.slice ao X.length cap) ∧ w'.ownsRow w.heap.size 52 1 (.slice ao X.length cap) X.length (fq Y) ∧ Y.map Pg.P = X.map Pg.P ∧ (∀ t ∈ Y, PgAt w' t ∧ w.heap.size ≤ t.g)
theorem st_pages {w wr : World} {p : Nat} {L : IL} (h : St w p L wr) (hn : L.length ≤ 4096) : Calls Try.prog 20 #[.pointer (some ⟨p, 0, none⟩)] wr fun e w' => (∃ X, Fit X ∧ cont X = L ∧ ToldP wr X e w') ∧ St w p L w' := by
  have hs := h
  obtain ⟨F, ⟨v, X, h1, rfl⟩, h3⟩ := h
  refine (pages_any h1 (by omega)).mono ?_
  rintro e w' ⟨v', rfl, Y, y1, y2, y3, y4⟩
  have hl : Y.length = X.length := by simpa using congrArg List.length y2
  rw [hl] at y1
  obtain ⟨ao, cap, rfl, _⟩ := Pq.own_slice y1
  exact ⟨⟨X, h1.fit, rfl, ao, cap, Y, rfl, y1, y2, y3⟩, hs.below y4⟩
end Go.Proofs.Ythjcohaldjfniaa.Ix
