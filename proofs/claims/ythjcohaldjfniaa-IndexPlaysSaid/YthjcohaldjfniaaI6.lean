/- index: slices.Grow of nothing, Concat of two pages, walked. -/
import Derived.Test.YthjcohaldjfniaaI5
namespace Go.Proofs.Ythjcohaldjfniaa.Ix
open Go Go.RowKit
open Pq (Pg pv fq)
open It (fl)
theorem run_append_made0 (w : World) (ty m : Nat) (h0 : 0 < m) (hm : m ≤ 1000000) :
    ∃ cap' w' cur, (Builtin.append_ #[52, 3] ty #[.slice none 0 0, .int .i64 m]).run Try.prog w = .ok (.slice (some ⟨w.heap.size, 0, none⟩) m cap') w' ∧ w'.heap[w.heap.size]? = some (.cells (List.toArray cur) 42 (0, 0)) ∧ cur.length = cap' * 2 ∧ m ≤ cap' ∧ cap' ≤ maxLen ∧ w.grownBy w' none := by
  obtain ⟨i, hi, hz, hsz, hby⟩ := info_parts It.info42
  have hwm : IntKind.i64.wrap (m : Int) = m := by simp [IntKind.wrap, IntKind.bits, IntKind.signed]; omega
  have hai : ∀ (k : Int) (w : World), (asInt (.int .i64 k)).run Try.prog w = .ok k w := fun k w => by simp [asInt, asIntOf]
  have h1 : ¬ ((m : Int) < 0) := by omega
  have h2 : ¬ (281474976710656 < (m : Int) * 16) := by omega
  have h00 : m ≠ 0 := by omega
  have hge := grownCap_ge w m 0 42
  have hcm := grownCap_le_maxLen w m 0 42 (by unfold maxLen; omega)
  have h63' : ¬ (9223372036854775807 < (m : Int)) := by omega
  have h48 := growslice_fits (need := m) (old := 0) (bytes := 16) (by omega) (by omega)
  have h48' : ¬ (281474976710656 < Builtin.nextslicecap m 0 * 16) := by omega
  refine ⟨grownCap w m 0 42, w.drew.alloc (.cells ((It.Zs m ++ It.Zs (grownCap w m 0 42 - m)).toArray) 42), It.Zs m ++ It.Zs (grownCap w m 0 42 - m), ?_, heap_alloc_new w.drew _, ?_, hge, hcm, ⟨rfl, rfl, rfl, by simp, fun k hk _ => heap_alloc_old w.drew _ hk⟩⟩
  · simp [Builtin.append_, run_underlying Try.underlying52, run_underlying Try.underlying3, sizeOf, typeInfo, zeroValue, hi, hz, hsz, hby, Builtin.lenOf, Builtin.firstCells, hwm, hai, h1, h2, h00, h63', h48', It.zero_cells, Question.forced, newRow, grownCap]
    intro h; omega
  · simp only [List.length_append, It.zs_len]
    omega
theorem wpList_append_made0 {ops : Array Oper} {rest : List Oper} {o : Oper} {a : Act} {w : World} {Q : Exit → Act → World → Prop} (hgd : o.guard = none) (s x : Operand)
    (ho : o.op = .call { callee := .builtin .append, args := #[s, x], argTypes := #[52, 3] }) (m : Nat) (hs : a.eval s = .slice none 0 0) (hx : a.eval x = .int .i64 m) (h0 : 0 < m) (hm : m ≤ 1000000)
    (h : ∀ cap' w' cur, w'.heap[w.heap.size]? = some (.cells (List.toArray cur) 42 (0, 0)) → cur.length = cap' * 2 → m ≤ cap' → cap' ≤ maxLen → w.grownBy w' none → wpList Try.prog ops Q rest (a.put o.dst (.slice (some ⟨w.heap.size, 0, none⟩) m cap')) w') : wpList Try.prog ops Q (o :: rest) a w := by
  refine wpList_step fun K hK => ?_
  have hw : Region.wanted o (yielded ops a.tmps) = true := by simp [Region.wanted, hgd]
  rw [if_pos hw]
  obtain ⟨cap', w', cur, hrun, h1, h2, h3, h4, h5⟩ := run_append_made0 w o.type m h0 hm
  unfold Oper.wp
  simp [execOp, ho, resolve, invoke, builtin, hs, hx, hrun, Result.andThen]
  exact hK _ _ (h cap' w' cur h1 h2 h3 h4 h5)
def GrowR (w : World) (e : Ending) (w' : World) : Prop :=
  ∃ cap, e = .returned (.slice (some ⟨w.heap.size, 0, none⟩) 0 cap) ∧ w'.ownsRow w.heap.size 42 2 (.slice (some ⟨w.heap.size, 0, none⟩) 0 cap) 0 [] ∧ Below w.heap.size w w'
theorem grow_any (m : Nat) (h0 : 0 < m) (hm : m ≤ 1000000) (w : World) : Calls Try.prog 39 #[.slice none 0 0, .int .i64 m] w (GrowR w) := by
  have hi0 : (0 : Int) < (m : Int) := by omega
  have hi1 : ¬ (m : Int) < 0 := by omega
  go_enter Try.func39, Try.ntmps39
  go_upto_region 5 with fail
  apply wp_region_lit
  go_upto_region 6 with (refine wpList_append_made0 rfl (.tmp 20) (.tmp 21) rfl m rfl rfl h0 hm ?_; intro c w1 cur h1 h2 h3 h4 h5; have H1 := Lib.hid (And.intro h1 (And.intro h2 (And.intro h4 h5))); clear h1 h2 h4 h5)
  go_wp2_with fail
  go_ret
  obtain ⟨h1, h2, h4, h5⟩ := H1.out
  exact ⟨c, rfl, ⟨rfl, .inr ⟨w.heap.size, c, cur.toArray, rfl, Nat.le_refl _, h1, Nat.zero_le _, h4, by simpa using h2, rfl⟩⟩, grown_below (Below.refl _ _) h5 (fun k e => by cases e)⟩
end Go.Proofs.Ythjcohaldjfniaa.Ix
