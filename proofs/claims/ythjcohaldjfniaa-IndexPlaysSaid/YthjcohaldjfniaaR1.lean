/- index: the document's list; its Get, walked. -/
import Derived.Test.YthjcohaldjfniaaO1
namespace Go.Proofs.Ythjcohaldjfniaa.Ix
open Go Go.RowKit
open Pq (Pg pv fq)
open It (fl)
theorem info45 : (Try.prog.info? 45).map (fun i => (i.zero, i.size, i.bytes)) = some (some (.agg #[.int .u64 0, .int .u64 0]), 2, 16) := by kernel_rfl
/-- The document's list in block p, its row among F. -/
structure RefAt (w : World) (B : Nat) (F : Nat → Prop) (p : Nat) (v : Value) (L : IL) : Prop where
  cell : w.heap[p]? = some (.cells #[v] 30 (0, 0))
  row : w.ownsRow B 45 2 v L.length (fl L)
  base : B ≤ w.heap.size
  fp : F p
  fv : ∀ g, v.ownBlock = some g → F g
  hi : ∀ k, F k → k < w.heap.size
  low : ∀ k, F k → B ≤ k
theorem RefAt.on {w w' : World} {B p : Nat} {F G : Nat → Prop} {v : Value} {L : IL} (h : RefAt w B F p v L) (ht : Turned G w w') (hF : ∀ k, F k → ¬ G k) : RefAt w' B F p v L :=
  ⟨(ht.block p (h.hi p h.fp) (hF p h.fp)).trans h.cell, own_on h.row (fun g e => ht.block g (h.hi g (h.fv g e)) (hF g (h.fv g e))), Nat.le_trans h.base ht.size, h.fp, h.fv, fun k hk => Nat.lt_of_lt_of_le (h.hi k hk) ht.size, h.low⟩
theorem RefAt.below {w w' : World} {B p : Nat} {F : Nat → Prop} {v : Value} {L : IL} (h : RefAt w B F p v L) (hb : Below w.heap.size w w') : RefAt w' B F p v L := h.on (G := fun _ => False) (below_any hb) (fun _ _ => id)
theorem slice45 {w : World} {B n : Nat} {v : Value} {L : IL} (h : w.ownsRow B 45 2 v n (fl L)) (hn : n = L.length) : ∃ (ao : Option Addr) (cap : Nat), v = .slice ao L.length cap ∧ L.length ≤ cap ∧ Rl w ao L := by
  subst hn
  rcases h.2 with ⟨h0, h1⟩ | ⟨g, cap, cur, h0, h1, h2, h3, _⟩
  · exact ⟨none, 0, by rw [h0, h1], by omega, fun j e he => by rw [List.eq_nil_of_length_eq_zero h1] at he; simp at he⟩
  · refine ⟨some ⟨g, 0, none⟩, cap, h0, h3, fun j e he => ?_⟩
    obtain ⟨a1, a2⟩ := It.fl_at he
    have b1 := h.cells (g := g) (by rw [h0]; rfl) _ _ a1
    have b2 := h.cells (g := g) (by rw [h0]; rfl) _ _ a2
    rw [Go.WideShapes.add_plain, Nat.zero_add] at b1 b2
    exact ⟨g, rfl, World.block_lt_of_cell? w _ b1, b1, b2⟩
theorem RefAt.lt {w : World} {B p : Nat} {F : Nat → Prop} {v : Value} {L : IL} (h : RefAt w B F p v L) : p < w.heap.size := h.hi p h.fp
/-- The document's Get. -/
def RGetE (L : IL) (k : Int) (w : World) (e : Ending) (w' : World) : Prop :=
  (∃ (u : Int) (ok : Bool), e = .returned (.tuple #[.int .u64 u, .bool ok]) ∧ ((ok = true ∧ (k, u) ∈ L) ∨ (ok = false ∧ u = 0 ∧ ¬ hasL L k))) ∧ w = w'
set_option maxRecDepth 100000 in
theorem rget_any {w : World} {B p : Nat} {F : Nat → Prop} {v : Value} {L : IL} (h : RefAt w B F p v L) (k : Int) (hn : L.length ≤ 5000) : Calls Try.prog 15 #[.pointer (some ⟨p, 0, none⟩), .int .u64 k] w (RGetE L k w) := by
  obtain ⟨ao, cap, rfl, hcap, hr⟩ := slice45 h.row rfl
  have c0 : w.cell? ⟨p, 0, none⟩ = some (.slice ao L.length cap) := by simp [World.cell?, h.cell]
  have HR := Lib.hid hr
  obtain ⟨N, hN⟩ : ∃ N, L.length = N := ⟨_, rfl⟩
  rw [hN] at c0 hcap hn
  have HN := Lib.hid hN
  clear h hr hN
  go_enter Try.func15, Try.ntmps15
  go_wp2_with fail
  go_loop [6] (fun u6 => ∃ i : Nat, i ≤ N ∧ u6 = .int .i64 i ∧ Hid (∀ e ∈ L.take i, e.1 ≠ k)) (fun u6 => N - (intOf u6).toNat)
  case atStart => exact ⟨0, Nat.zero_le _, rfl, Lib.hid (by simp)⟩
  case round =>
    obtain ⟨i, hi, rfl, I⟩ := hrel
    by_cases hlt : i < N
    · have he := getD_at L i (0, 0) (by have := HN.out; omega)
      obtain ⟨q, eq⟩ : ∃ q, q = L.getD i (0, 0) := ⟨_, rfl⟩
      rw [← eq] at he
      obtain ⟨g, rfl, _, c1, c2⟩ := HR.out i q he
      have ii : (i : Int) < (N : Int) := by omega
      have HE := Lib.hid he
      clear he eq
      by_cases hq : q.1 = k
      · have hq1 : (q.1 == k) = true := by simpa using hq
        have HQ := Lib.hid hq
        clear hq
        go_wp2_with fail
        go_ret2
        refine ⟨⟨q.2, true, rfl, .inl ⟨rfl, ?_⟩⟩, rfl⟩
        rw [← HQ.out]; exact List.mem_of_getElem? HE.out
      · have hq1 : (q.1 == k) = false := by simpa using hq
        have HQ := Lib.hid hq
        clear hq
        go_wp2_with fail
        go_round
        case rel =>
          refine ⟨i + 1, by omega, by go_num, Lib.hid ?_⟩
          obtain ⟨h5, e5⟩ := List.getElem?_eq_some_iff.1 HE.out
          rw [List.take_succ_eq_append_getElem h5, e5]
          intro e he
          rcases List.mem_append.1 he with he | he
          · exact I.out e he
          · simp at he; subst he; exact HQ.out
        case measure => simp [intOf]; omega
    · obtain rfl : i = N := by omega
      go_wp2_with fail
      go_ret2
      refine ⟨⟨0, false, rfl, .inr ⟨rfl, rfl, ?_⟩⟩, rfl⟩
      rintro ⟨e, he, e1⟩
      exact I.out e (by rw [List.take_of_length_le (by have := HN.out; omega)]; exact he) e1
end Go.Proofs.Ythjcohaldjfniaa.Ix
