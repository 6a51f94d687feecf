/- index: slices.Clone, Delete, of items, walked. -/
import Derived.Test.YthjcohaldjfniaaB3
import Derived.Maps.AppendAt
namespace Go.Proofs.Ythjcohaldjfniaa.Ix
open Go Go.RowKit
open Pq (Pg pv fq)
open It (fl)
/-- A copy in a block of its own. -/
def NewPg (w : World) (P : IL) (e : Ending) (w' : World) : Prop :=
  ∃ t : Pg, e = .returned (pv t) ∧ t.P = P ∧ PgAt w' t ∧ w.heap.size ≤ t.g ∧ Below w.heap.size w w'
theorem grown_below {w w1 w' : World} {r : Option Nat} (hb : Below w.heap.size w w1) (hg : w1.grownBy w' r) (hr : ∀ k, r = some k → w.heap.size ≤ k) : Below w.heap.size w w' :=
  ⟨hg.os.trans hb.os, hg.tape.trans hb.tape, hg.output.trans hb.output, Nat.le_trans hb.size hg.size, fun k hk => (hg.block k (Nat.lt_of_lt_of_le hk hb.size) (fun e => by have := hr k e.symm; omega)).trans (hb.block k hk)⟩
set_option maxRecDepth 100000 in
theorem clone_any (P : IL) (g off cap : Nat) (w : World) (h0 : 0 < P.length) (hn : P.length ≤ 100000) (hg : g < w.heap.size) (hc : ∀ j u, (fl P)[j]? = some u → w.cell? ((⟨g, off, none⟩ : Addr).add j) = some u) :
    Calls Try.prog 30 #[.slice (some ⟨g, off, none⟩) P.length cap] w (NewPg w P) := by
  obtain ⟨i0, hi0, hz0, hz1, hz2⟩ := info_parts It.info42
  have hE : (w.alloc (.cells #[] 42)).ownsRow w.heap.size 42 2 (.slice (some ⟨w.heap.size, 0, none⟩) 0 0) 0 [] :=
    ⟨rfl, .inr ⟨w.heap.size, 0, #[], rfl, Nat.le_refl _, heap_alloc_new w _, Nat.le_refl _, by unfold maxLen; omega, rfl, rfl⟩⟩
  have HE := Lib.hid hE
  have HN := Lib.hid (show ∀ j u, (fl P)[j]? = some u → (w.alloc (.cells #[] 42)).cell? ((⟨g, off, none⟩ : Addr).add j) = some u from fun j u hu => by
    have := hc j u hu
    rw [Go.WideShapes.add_plain] at this ⊢
    exact ((World.grownBy_alloc w _ none).cell_far ⟨g, off + j, none⟩ hg (by simp)).trans this)
  have hb := Lib.hid ((Below.refl w.heap.size w).alloc (Nat.le_refl _) (.cells #[] 42))
  have H0 := Lib.hid h0
  clear hc hE h0
  have hnil := fun w => Lib.run_eql_slice_nil (P := Try.prog) w 52 42 (some ⟨g, off, none⟩) P.length cap 0 0 Try.underlying52
  go_enter Try.func30, Try.ntmps30
  go_wp2_with (at_builtin; refine wpList_append_own_at _ rfl (.tmp 5) (.tmp 6) 52 rfl w.heap.size 42 i0 _ 2 16 Try.underlying52 hi0 hz0 hz1 hz2 rfl (by decide) _ 0 [] rfl HE.out ⟨g, off, none⟩ P.length cap (fl P) rfl (It.fl_len P) HN.out (It.fl_one P) (by unfold maxLen; omega) (by omega) hb.out.size ?_; intro v' w3 hown3 hgrow3 _ _; have H3 := Lib.hid (And.intro hown3 (grown_below hb.out hgrow3 (fun k e => (World.ownsRow.lt HE.out k e).1))); clear hown3 hgrow3)
  go_ret
  have h3 := H3.out.1
  rw [Nat.zero_add, List.nil_append] at h3
  obtain ⟨t, rfl, ht, hp, hg⟩ := PgAt.of_own h3 rfl H0.out
  exact ⟨t, rfl, ht, hp, hg, H3.out.2⟩
end Go.Proofs.Ythjcohaldjfniaa.Ix
