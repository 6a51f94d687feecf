/- plate: append of what make gives. -/
import Derived.Test.YtjfbgihjgnbeeaaA5
import Derived.Laws.AppendOwnNone
namespace Go.Proofs.Ytjfbgihjgnbeeaa.Pl
open Go Go.RowKit
def zs (m : Nat) : List Value := List.replicate m (.int .u8 0)
theorem zs_len (m : Nat) : (zs m).length = m := by simp [zs]
theorem zs_byte {m : Nat} : ∀ x ∈ zs m, IsByte x := fun x hx => ⟨0, by simp [zs] at hx; exact hx.2, by decide, by decide⟩
theorem zs_one {m : Nat} : ∀ x ∈ zs m, x.oneCell' = true := fun x hx => by simp [zs] at hx; rw [hx.2]; rfl
theorem zero_cells (m : Nat) : Builtin.zeroCells (Value.int .u8 0).cells m = (zs m).toArray := by
  apply Array.ext
  · simp [Builtin.zeroCells, zs, Value.cells]
  · intro i h1 h2
    simp [Builtin.zeroCells, zs, Value.cells, Nat.mod_one]
theorem run_append_made (w : World) (base g n cap ty m : Nat) (xs : List Value) (hown : w.ownsRow base 5 1 (.slice (some ⟨g, 0, none⟩) n cap) n xs) (hb : base ≤ w.heap.size) (hn : n ≤ 1000) (hm : m ≤ 1000) :
    ∃ g' cap' w', (Builtin.append_ #[31, 3] ty #[.slice (some ⟨g, 0, none⟩) n cap, .int .i64 m]).run Try.prog w = .ok (.slice (some ⟨g', 0, none⟩) (n + m) cap') w' ∧ w'.ownsRow base 5 1 (.slice (some ⟨g', 0, none⟩) (n + m) cap') (n + m) (xs ++ zs m) ∧ w.grownBy w' (some g) ∧ (g' = g ∨ g' = w.heap.size) := by
  obtain ⟨i, hi, hz, hsz, hby⟩ := info_parts info5
  have hlen : xs.length = n := by have := hown.1; omega
  have hwm : IntKind.i64.wrap (m : Int) = m := by simp [IntKind.wrap, IntKind.bits, IntKind.signed]; omega
  have hai : ∀ (k : Int) (w : World), (asInt (.int .i64 k)).run Try.prog w = .ok k w := fun k w => by simp [asInt, asIntOf]
  have h1 : ¬ ((m : Int) < 0) := by omega
  have h2 : ¬ (281474976710656 < (m : Int)) := by omega
  rcases hown.2 with ⟨e, _⟩ | ⟨g0, cap0, cur, e, hbg, hg, hnc, hcm, hcs, htake⟩
  · simp at e
  · simp only [Value.slice.injEq, Option.some.injEq, Addr.mk.injEq, and_true, true_and] at e
    obtain ⟨rfl, rfl⟩ := e
    by_cases hroom : n + m ≤ cap
    · have hfit : 0 + n + (zs m).length ≤ cur.size := by rw [zs_len]; omega
      have hst := run_storeCells_at Try.prog g n 5 (zs m) 0 cur w hg (by rw [zs_len]; omega) zs_one
      simp only [Nat.add_zero] at hst
      refine ⟨g, cap, _, ?_, ⟨by rw [List.length_append, hlen, zs_len]; omega, .inr ⟨g, cap, _, rfl, hbg, setRow_heap w g cur (cur.toList.take n ++ zs m ++ cur.toList.drop (n + (zs m).length)).toArray 5 _ hg, hroom, hcm, ?_, ?_⟩⟩, ⟨rfl, rfl, rfl, by simp, fun k _ hk => setRow_other w g k _ (fun e => hk (by rw [e]))⟩, .inl rfl⟩
      · by_cases h0 : m = 0
        · subst h0
          have e0 : (zs 0) = [] := rfl
          have es := setRow_self w g cur 5 (0, 0) hg
          simp [Builtin.append_, run_underlying Try.underlying31, run_underlying Try.underlying3, sizeOf, typeInfo, hi, hsz, hby, Builtin.lenOf, hroom, hai, IntKind.wrap, IntKind.bits, IntKind.signed, storeCells, e0, es]
          intro h; omega
        · simp [Builtin.append_, run_underlying Try.underlying31, run_underlying Try.underlying3, sizeOf, typeInfo, zeroValue, hi, hz, hsz, hby, Builtin.lenOf, hroom, hwm, hai, h1, h2, h0, Addr.add_lit, zero_cells, hst]
      · simp only [List.size_toArray, List.length_append, List.length_take, List.length_drop, Array.length_toList, zs_len]
        omega
      · have ht : cur.toList.take n = xs := by rw [← htake, Nat.mul_one]
        rw [ht, List.take_append_of_le_length (by rw [List.length_append, hlen, zs_len]; omega)]
        exact List.take_of_length_le (by rw [List.length_append, hlen, zs_len]; omega)
    · have h0 : m ≠ 0 := by omega
      have holds : ∀ j u, xs[j]? = some u → w.cell? ((⟨g, 0, none⟩ : Addr).add j) = some u := hown.cells (g := g) rfl
      have hge := grownCap_ge w (n + m) cap 5
      have hcm := grownCap_le_maxLen w (n + m) cap 5 (by unfold maxLen; omega)
      have hfo := run_firstCells_some (P := Try.prog) w.drew 1 n ⟨g, 0, none⟩ n cap xs (by rw [hlen]; omega) (by simpa using holds)
      have h63 : ¬ (9223372036854775807 < (n : Int) + max (m : Int) 0) := by omega
      have h63' : ¬ (9223372036854775807 < (n : Int) + (m : Int)) := by omega
      have h48 := growslice_fits (need := n + m) (old := cap) (bytes := 1) (by omega) (by omega)
      have h48' : ¬ (281474976710656 < Builtin.nextslicecap (n + m) cap) := by omega
      refine ⟨w.heap.size, grownCap w (n + m) cap 5, w.drew.alloc (.cells ((xs ++ zs m ++ zs (grownCap w (n + m) cap 5 - (n + m))).toArray) 5), ?_, ⟨by rw [List.length_append, hlen, zs_len]; omega, .inr ⟨w.heap.size, _, _, rfl, hb, heap_alloc_new w.drew _, hge, hcm, ?_, ?_⟩⟩, ⟨rfl, rfl, rfl, by simp, fun k hk _ => heap_alloc_old w.drew _ hk⟩, .inr rfl⟩
      · simp [Builtin.append_, run_underlying Try.underlying31, run_underlying Try.underlying3, sizeOf, typeInfo, zeroValue, hi, hz, hsz, hby, Builtin.lenOf, hroom, hwm, hai, h1, h2, h0, h63, h63', h48', Addr.add_lit, zero_cells, hfo, Question.forced, newRow, grownCap]
      · simp only [List.size_toArray, List.length_append, hlen, zs_len]
        omega
      · rw [List.take_append_of_le_length (by rw [List.length_append, hlen, zs_len]; omega)]
        exact List.take_of_length_le (by rw [List.length_append, hlen, zs_len]; omega)
theorem wpList_append_made {ops : Array Oper} {rest : List Oper} {o : Oper} {a : Act} {w : World} {Q : Exit → Act → World → Prop} (hw : Region.wanted o (yielded ops a.tmps) = true) (s x : Operand)
    (ho : o.op = .call { callee := .builtin .append, args := #[s, x], argTypes := #[31, 3] }) (base g n cap m : Nat) (xs : List Value) (hs : a.eval s = .slice (some ⟨g, 0, none⟩) n cap) (hx : a.eval x = .int .i64 m) (hown : w.ownsRow base 5 1 (.slice (some ⟨g, 0, none⟩) n cap) n xs) (hb : base ≤ w.heap.size) (hn : n ≤ 1000) (hm : m ≤ 1000)
    (h : ∀ g' cap' w', w'.ownsRow base 5 1 (.slice (some ⟨g', 0, none⟩) (n + m) cap') (n + m) (xs ++ zs m) → w.grownBy w' (some g) → (g' = g ∨ g' = w.heap.size) → wpList Try.prog ops Q rest (a.put o.dst (.slice (some ⟨g', 0, none⟩) (n + m) cap')) w') : wpList Try.prog ops Q (o :: rest) a w := by
  refine wpList_step fun K hK => ?_
  rw [if_pos hw]
  obtain ⟨g', cap', w', hrun, h1, h2, h3⟩ := run_append_made w base g n cap o.type m xs hown hb hn hm
  unfold Oper.wp
  simp [execOp, ho, resolve, invoke, builtin, hs, hx, hrun, Result.andThen]
  exact hK _ _ (h g' cap' w' h1 h2 h3)
/-- A list of the call's own reads as bytes. -/
theorem own_src {w : World} {base g n cap : Nat} {xs : List Value} (h : w.ownsRow base 5 1 (.slice (some ⟨g, 0, none⟩) n cap) n xs) (hx : ∀ x ∈ xs, IsByte x) : Src w (some ⟨g, 0, none⟩) xs :=
  ⟨fun _ => ⟨_, rfl, h.cells (g := g) rfl⟩, hx⟩
theorem lit_own (w : World) (base : Nat) (cs : List Value) (hb : base ≤ w.heap.size) (hm : cs.length ≤ maxLen) : (w.alloc (.cells cs.toArray 5)).ownsRow base 5 1 (.slice (some ⟨w.heap.size, 0, none⟩) cs.length cs.length) cs.length cs :=
  World.ownsRow_lit (base := base) (e := 5) (size := 1) w cs.toArray cs.length hb hm (by simp)
end Go.Proofs.Ytjfbgihjgnbeeaa.Pl
