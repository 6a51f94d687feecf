/- commit: a book beside blocks that stay; the document's example, walked. -/
import Derived.Test.YtklalpamcfkngaaB7
namespace Go.Proofs.Ytklalpamcfkngaa.Cm
open Go Go.RowKit
/-- These blocks are as they were. -/
structure Kept (Z : Nat → Prop) (w w' : World) : Prop where
  size : w.heap.size ≤ w'.heap.size
  block : ∀ k, Z k → w'.heap[k]? = w.heap[k]?
theorem Kept.refl (Z : Nat → Prop) (w : World) : Kept Z w w := ⟨Nat.le_refl _, fun _ _ => rfl⟩
theorem Kept.trans {Z : Nat → Prop} {a b c : World} (h : Kept Z a b) (k : Kept Z b c) : Kept Z a c := ⟨Nat.le_trans h.size k.size, fun i hi => (k.block i hi).trans (h.block i hi)⟩
theorem Kept.mono {Z Y : Nat → Prop} {a b : World} (h : Kept Z a b) (hy : ∀ k, Y k → Z k) : Kept Y a b := ⟨h.size, fun k hk => h.block k (hy k hk)⟩
theorem Kept.cell {Z : Nat → Prop} {a b : World} (h : Kept Z a b) {k i : Nat} {v : Value} (hk : Z k) (hc : a.cell? ⟨k, i, none⟩ = some v) : b.cell? ⟨k, i, none⟩ = some v := by
  have := h.block k hk
  simp only [World.cell?, this] at hc ⊢
  exact hc
/-- A book, and blocks that are none of its own; of what was there ahead nothing has turned. -/
def KB (w0 : World) (Z : Nat → Prop) (n p : Nat) (RM : TK → Option RunM) (T : TK → Option Int) (w : World) : Prop :=
  ∃ F, Bk w w0.heap.size n F p RM T ∧ Below w0.heap.size w0 w ∧ ∀ k, Z k → ¬ F k ∧ k < w.heap.size
section
variable {w0 w w' : World} {Z : Nat → Prop} {n m p : Nat} {RM RM' : TK → Option RunM} {T T' : TK → Option Int} {t : TK}
theorem KB.ahead (h : KB w0 Z n p RM T w) : Below w0.heap.size w0 w := by
  obtain ⟨F, _, h, _⟩ := h
  exact h
theorem KB.below (h : KB w0 Z n p RM T w) (hb : Below w.heap.size w w') : KB w0 Z n p RM T w' := by
  obtain ⟨F, h1, h2, h3⟩ := h
  exact ⟨F, h1.below hb, h2.trans (hb.mono h2.size), fun k hk => ⟨(h3 k hk).1, Nat.lt_of_lt_of_le (h3 k hk).2 hb.size⟩⟩
theorem KB.less {Y : Nat → Prop} (h : KB w0 Z n p RM T w) (hy : ∀ k, Y k → Z k) : KB w0 Y n p RM T w := by
  obtain ⟨F, h1, h2, h3⟩ := h
  exact ⟨F, h1, h2, fun k hk => h3 k (hy k hk)⟩
theorem KB.more (h : KB w0 Z n p RM T w) (hb : Below w.heap.size w w') : KB w0 (fun k => Z k ∨ (w.heap.size ≤ k ∧ k < w'.heap.size)) n p RM T w' := by
  obtain ⟨F, h1, h2, h3⟩ := h
  obtain ⟨a, b, R, hB, _⟩ := id h1
  refine ⟨F, h1.below hb, h2.trans (hb.mono h2.size), fun k hk => ?_⟩
  rcases hk with hk | hk
  · exact ⟨(h3 k hk).1, Nat.lt_of_lt_of_le (h3 k hk).2 hb.size⟩
  · exact ⟨fun e => by have := hB.hi k e; omega, hk.2⟩
theorem KB.mono (h : KB w0 Z n p RM T w) (hn : n ≤ m) : KB w0 Z m p RM T w := by
  obtain ⟨F, h1, h2⟩ := h
  exact ⟨F, h1.mono hn, h2⟩
/-- Blocks that are none of the book's own turn. -/
theorem KB.turn {G : Nat → Prop} (h : KB w0 Z n p RM T w) (ht : Turned G w w') (hG : ∀ k, G k → Z k ∧ w0.heap.size ≤ k) : KB w0 Z n p RM T w' := by
  obtain ⟨F, h1, h2, h3⟩ := h
  refine ⟨F, h1.on ht (fun k hk hg => (h3 k (hG k hg).1).1 hk), ⟨ht.os.trans h2.os, ht.tape.trans h2.tape, ht.output.trans h2.output, Nat.le_trans h2.size ht.size, fun k hk => ?_⟩, fun k hk => ⟨(h3 k hk).1, Nat.lt_of_lt_of_le (h3 k hk).2 ht.size⟩⟩
  exact (ht.block k (Nat.lt_of_lt_of_le hk h2.size) (fun e => by have := (hG k e).2; omega)).trans (h2.block k hk)
/-- What a call has made of a book. -/
theorem KB.did {E : Ending → Prop} {f : Nat} {args : Array Value} (h : ∀ F, Bk w w0.heap.size n F p RM T → Calls Try.prog f args w fun e w' => E e ∧ Did w w0.heap.size m F p RM' T' w') (hk : KB w0 Z n p RM T w) :
    Calls Try.prog f args w fun e w' => E e ∧ KB w0 Z m p RM' T' w' ∧ Kept Z w w' := by
  obtain ⟨F, h1, h2, h3⟩ := hk
  obtain ⟨a, b, R, hB, _⟩ := id h1
  refine (h F h1).mono fun e w' hh => ⟨hh.1, ?_⟩
  obtain ⟨F', k1, k2, k3⟩ := hh.2
  refine ⟨⟨F', k1, h2.trans ((k3.below hB.base hB.low).mono (Nat.le_refl _)), fun k hz => ⟨fun e => ?_, Nat.lt_of_lt_of_le (h3 k hz).2 k3.size⟩⟩, k3.size, fun k hz => k3.block k (h3 k hz).2 (h3 k hz).1⟩
  rcases k2 k e with e | e
  · exact (h3 k hz).1 e
  · have := (h3 k hz).2; omega
theorem KB.same {E : Ending → World → Prop} {f : Nat} {args : Array Value} (h : ∀ F, Bk w w0.heap.size n F p RM T → Calls Try.prog f args w fun e w' => E e w' ∧ Below w.heap.size w w') (hk : KB w0 Z n p RM T w) :
    Calls Try.prog f args w fun e w' => E e w' ∧ KB w0 Z n p RM T w' ∧ Below w.heap.size w w' := by
  obtain ⟨F, h1, h2⟩ := id hk
  exact (h F h1).mono fun e w' hh => ⟨hh.1, hk.below hh.2, hh.2⟩
theorem kb_new (w0 w : World) (hb : Below w0.heap.size w0 w) : Calls Try.prog 8 #[] w fun e w' => e = .returned (.pointer (some ⟨w.heap.size + 2, 0, none⟩)) ∧ KB w0 (fun k => w0.heap.size ≤ k ∧ k < w.heap.size) 0 (w.heap.size + 2) (fun _ => none) (fun _ => none) w' ∧ Below w.heap.size w w' := by
  refine (new_any w0.heap.size w hb.size).mono fun e w' hh => ⟨hh.1, ⟨_, hh.2.1, hb.trans (hh.2.2.mono hb.size), fun k hk => ⟨fun e => by omega, Nat.lt_of_lt_of_le hk.2 hh.2.2.size⟩⟩, hh.2.2⟩
theorem kb_begin (ao : Option Addr) (l c : Nat) (L : List Int) (h : KB w0 Z n p RM T w) (ht : InK t) (hL : L.length = l) (hr : Rd w ao L) (hi : ∀ x ∈ L, 0 ≤ x ∧ x ≤ 255) (hnn : n ≤ 1000000) :
    Calls Try.prog 12 #[.pointer (some ⟨p, 0, none⟩), .agg #[.int .u8 t.1, .int .u32 t.2.1, .int .u32 t.2.2], .slice ao l c] w fun e w' => e = .returned (.int .i64 (beginE RM t L)) ∧ KB w0 Z (n + 1) p (beginS RM t L) T w' ∧ Kept Z w w' :=
  KB.did (fun _ hB => begin_any ao l c L hB ht hL hr hi hnn) h
theorem kb_vote (h : KB w0 Z n p RM T w) (ht : InK t) (x : Int) (hx : 0 ≤ x) (yes : Bool) :
    Calls Try.prog 13 #[.pointer (some ⟨p, 0, none⟩), .agg #[.int .u8 t.1, .int .u32 t.2.1, .int .u32 t.2.2], .int .u8 x, .bool yes] w fun e w' => e = .returned (two (voteA (RM t) x yes).1 (voteA (RM t) x yes).2) ∧ KB w0 Z n p (voteS RM t x yes) T w' ∧ Kept Z w w' :=
  KB.did (fun _ hB => vote_any hB ht x hx yes) h
theorem kb_commit (h : KB w0 Z n p RM T w) (ht : InK t) :
    Calls Try.prog 14 #[.pointer (some ⟨p, 0, none⟩), .agg #[.int .u8 t.1, .int .u32 t.2.1, .int .u32 t.2.2]] w fun e w' => e = .returned (.int .i64 (commitE (RM t))) ∧ KB w0 Z n p (commitS RM t) T w' ∧ Kept Z w w' :=
  KB.did (fun _ hB => commit_any hB ht) h
theorem kb_runs (h : KB w0 Z n p RM T w) (ht : InK t) :
    Calls Try.prog 10 #[.pointer (some ⟨p, 0, none⟩), .agg #[.int .u8 t.1, .int .u32 t.2.1, .int .u32 t.2.2]] w fun e w' => e = .returned (.int .i64 (stR (RM t))) ∧ KB w0 Z n p RM T w' ∧ Below w.heap.size w w' :=
  KB.same (fun _ hB => runs_any hB ht) h
theorem kb_owing (h : KB w0 Z n p RM T w) (ht : InK t) :
    Calls Try.prog 16 #[.pointer (some ⟨p, 0, none⟩), .agg #[.int .u8 t.1, .int .u32 t.2.1, .int .u32 t.2.2]] w fun e w' => OwR w (owL (RM t)) e w' ∧ KB w0 Z n p RM T w' ∧ Below w.heap.size w w' :=
  KB.same (fun _ hB => (owing_any hB ht).mono fun e w' hh => ⟨hh, by obtain ⟨_, _, _, hb⟩ := hh; exact hb⟩) h
end
theorem rd02 (w : World) : Rd (w.alloc (.cells #[.int .u8 0, .int .u8 2] 5)) (some ⟨w.heap.size, 0, none⟩) [0, 2] := fun i x hx => by
  match i, hx with
  | 0, hx => simp at hx; subst hx; exact ⟨_, 0, rfl, by simp, World.cell?_alloc_new w _ 5 0⟩
  | 1, hx => simp at hx; subst hx; exact ⟨_, 0, rfl, by simp, World.cell?_alloc_new w _ 5 1⟩
  | i + 2, hx => simp at hx
theorem in02 : ∀ x ∈ ([0, 2] : List Int), 0 ≤ x ∧ x ≤ 255 := by decide
def t1 : TK := (0, 0, 1)
theorem in_t1 : InK t1 := by unfold InK t1; decide
set_option maxRecDepth 100000 in
set_option maxHeartbeats 4000000 in
theorem awake_any (w : World) : Calls Try.prog 7 #[] w fun e w' => e = .returned (.bool true) ∧ Below w.heap.size w w' := by
  obtain ⟨RM0, hRM0⟩ : ∃ RM0, RM0 = (fun _ => none : TK → Option RunM) := ⟨_, rfl⟩
  have A1 := Lib.hid (show beginE RM0 t1 [0, 2] = 0 by rw [hRM0]; decide)
  have A2 := Lib.hid (show voteA (beginS RM0 t1 [0, 2] t1) 0 true = (1, 0) by rw [hRM0]; decide)
  have A3 := Lib.hid (show commitE (voteS (beginS RM0 t1 [0, 2]) t1 0 true t1) = 9 by rw [hRM0]; decide)
  have A4 := Lib.hid (show voteA (commitS (voteS (beginS RM0 t1 [0, 2]) t1 0 true) t1 t1) 2 true = (3, 0) by rw [hRM0]; decide)
  have A5 := Lib.hid (show commitE (voteS (commitS (voteS (beginS RM0 t1 [0, 2]) t1 0 true) t1) t1 2 true t1) = 0 by rw [hRM0]; decide)
  have A6 := Lib.hid (show stR (commitS (voteS (commitS (voteS (beginS RM0 t1 [0, 2]) t1 0 true) t1) t1 2 true) t1 t1) = 3 by rw [hRM0]; decide)
  have A7 := Lib.hid (show (owL (commitS (voteS (commitS (voteS (beginS RM0 t1 [0, 2]) t1 0 true) t1) t1 2 true) t1 t1)).length = 2 by rw [hRM0]; decide)
  have HRM := Lib.hid hRM0
  clear hRM0
  go_enter Try.func7, Try.ntmps7
  go_upto_region 3 with (first
    | (go_at_call 8; refine (kb_new w w (Below.refl _ w)).mono ?_; rw [← HRM.out]; rintro e w1 ⟨rfl, hk, hb⟩; have H1 := Lib.hid (And.intro hk hb); clear hk hb))
  have H2 := Lib.hid ((H1.out.1.more ((Below.refl w1.heap.size w1).alloc (Nat.le_refl _) (.cells #[.int .u8 0, .int .u32 0, .int .u32 1] 33))).less (Y := fun k => k = w1.heap.size) (fun k e => .inr (by subst e; simp)))
  have c0 := World.cell?_alloc_new w1 #[.int .u8 0, .int .u32 0, .int .u32 1] 33 0
  have c1 := World.cell?_alloc_new w1 #[.int .u8 0, .int .u32 0, .int .u32 1] 33 1
  have c2 := World.cell?_alloc_new w1 #[.int .u8 0, .int .u32 0, .int .u32 1] 33 2
  clear H1
  generalize w1.alloc (.cells #[.int .u8 0, .int .u32 0, .int .u32 1] 33) = W at H2 c0 c1 c2 ⊢
  generalize w1.heap.size = tb at H2 c0 c1 c2 ⊢
  generalize w.heap.size + 2 = p at H2 ⊢
  have d0 : (W.alloc (.cells #[.int .u8 0, .int .u8 2] 5)).cell? ⟨tb, 0, none⟩ = some (.int .u8 0) := (World.cell?_alloc_past _ _ _ (World.block_lt_of_cell? W ⟨tb, 0, none⟩ c0)).trans c0
  have d1 : (W.alloc (.cells #[.int .u8 0, .int .u8 2] 5)).cell? ⟨tb, 1, none⟩ = some (.int .u32 0) := (World.cell?_alloc_past _ _ _ (World.block_lt_of_cell? W ⟨tb, 1, none⟩ c1)).trans c1
  have d2 : (W.alloc (.cells #[.int .u8 0, .int .u8 2] 5)).cell? ⟨tb, 2, none⟩ = some (.int .u32 1) := (World.cell?_alloc_past _ _ _ (World.block_lt_of_cell? W ⟨tb, 2, none⟩ c2)).trans c2
  go_upto_region 5 with (first
    | (go_at_call 12; refine (kb_begin (some ⟨W.heap.size, 0, none⟩) 2 2 [0, 2] (H2.out.below ((Below.refl _ W).alloc (Nat.le_refl _) _)) in_t1 rfl (rd02 W) in02 (by decide)).mono ?_; rw [A1.out]; rintro e w2 ⟨rfl, hk, hs⟩; have K2 := Lib.hid (And.intro hk hs); clear hk hs))
  have e0 := K2.out.2.cell rfl d0
  have e1 := K2.out.2.cell rfl d1
  have e2 := K2.out.2.cell rfl d2
  clear c0 c1 c2 d0 d1 d2
  go_upto_region 6 with (go_at_call 13; refine (kb_vote K2.out.1 in_t1 0 (by decide) true).mono ?_; rw [A2.out]; rintro e w3 ⟨rfl, hk, hs⟩; unfold two; have K3 := Lib.hid (And.intro hk hs); clear hk hs)
  have c0 := K3.out.2.cell rfl e0
  have c1 := K3.out.2.cell rfl e1
  have c2 := K3.out.2.cell rfl e2
  clear e0 e1 e2
  go_upto_region 7 with (go_at_call 14; refine (kb_commit K3.out.1 in_t1).mono ?_; rw [A3.out]; rintro e w4 ⟨rfl, hk, hs⟩; have K4 := Lib.hid (And.intro hk hs); clear hk hs)
  have d0 := K4.out.2.cell rfl c0
  have d1 := K4.out.2.cell rfl c1
  have d2 := K4.out.2.cell rfl c2
  clear c0 c1 c2
  go_upto_region 8 with (go_at_call 13; refine (kb_vote K4.out.1 in_t1 2 (by decide) true).mono ?_; rw [A4.out]; rintro e w5 ⟨rfl, hk, hs⟩; unfold two; have K5 := Lib.hid (And.intro hk hs); clear hk hs)
  have e0 := K5.out.2.cell rfl d0
  have e1 := K5.out.2.cell rfl d1
  have e2 := K5.out.2.cell rfl d2
  clear d0 d1 d2
  go_wp2_with (first
    | (go_at_call 14; refine (kb_commit K5.out.1 in_t1).mono ?_; rw [A5.out]; rintro e w6 ⟨rfl, hk, hs⟩; have K6 := Lib.hid (And.intro hk hs); have f0 := hs.cell rfl e0; have f1 := hs.cell rfl e1; have f2 := hs.cell rfl e2; clear hk hs e0 e1 e2)
    | (go_at_call 10; refine (kb_runs K6.out.1 in_t1).mono ?_; rw [A6.out]; rintro e w7 ⟨rfl, hk, hb⟩; have K7 := Lib.hid hk; have g0 := (hb.cell (p := ⟨tb, 0, none⟩) (World.block_lt_of_cell? w6 ⟨tb, 0, none⟩ f0)).trans f0; have g1 := (hb.cell (p := ⟨tb, 1, none⟩) (World.block_lt_of_cell? w6 ⟨tb, 1, none⟩ f1)).trans f1; have g2 := (hb.cell (p := ⟨tb, 2, none⟩) (World.block_lt_of_cell? w6 ⟨tb, 2, none⟩ f2)).trans f2; clear hk hb f0 f1 f2)
    | (go_at_call 16; refine (kb_owing K7.out in_t1).mono ?_; rintro e w8 ⟨⟨v, rfl, ho, _⟩, hk, hb⟩; rw [A7.out] at ho; obtain ⟨ao, cap, rfl, _, _⟩ := own_slice ho; have K8 := Lib.hid hk; clear hk hb ho))
  go_ret
  exact ⟨rfl, K8.out.ahead⟩
end Go.Proofs.Ytklalpamcfkngaa.Cm
