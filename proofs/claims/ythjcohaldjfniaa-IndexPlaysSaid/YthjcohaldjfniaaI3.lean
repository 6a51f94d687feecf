/- index: slices.Insert put together; append where there is room. -/
import Derived.Test.YthjcohaldjfniaaI2
namespace Go.Proofs.Ythjcohaldjfniaa.Ix.It
open Go Go.RowKit
theorem insert_any (B : Nat) (v : Value) (L : List (Int × Int)) (i : Nat) (so : Option Addr) (m sc : Nat) (ys : List (Int × Int)) (w : World) (hown : w.ownsRow B 42 2 v L.length (fl L)) (hi : i ≤ L.length) (hB : B ≤ w.heap.size) (hL : L.length ≤ 100000) (hm : m ≤ 2) (hs : SrcY w v so m ys) :
    Calls Try.prog 26 #[v, .int .i64 i, .slice so m sc] w (RepR w B v (L.take i ++ ys ++ L.drop i)) := by
  by_cases h0 : m = 0
  · subst h0
    obtain rfl : ys = [] := List.eq_nil_of_length_eq_zero hs.1
    refine (insert_none B v L i so sc w hown hi).mono ?_
    rintro e w' ⟨rfl, rfl⟩
    exact ⟨v, rfl, by rw [List.append_nil, List.take_append_drop]; exact hown, ⟨rfl, rfl, rfl, Nat.le_refl _, fun _ _ _ => rfl⟩, fun g h => .inl h⟩
  by_cases he : i = L.length
  · subst he
    rw [List.take_length, List.drop_length, List.append_nil]
    exact insert_end B v L so m sc ys w hown hB hL (by omega) hm hs
  obtain ⟨g, cap, cur, rfl, hBg, _, hg, hc, hn, hcm, ht⟩ := own_block hown (by omega)
  by_cases hr : L.length + m ≤ cap
  · exact insert_room B g cap cur L i so m sc ys w hBg hg hc hcm ht (by omega) hL (by omega) hm hr hs
  · exact insert_grow B g cap L i so m sc ys w hown (by omega) hB hL (by omega) hm (by omega) hs
theorem splice_head (cur ys : List Value) (a : Nat) (h : a ≤ cur.length) : (splice cur a ys).take (a + ys.length) = cur.take a ++ ys := by
  unfold splice
  rw [← List.append_assoc, List.take_append_of_le_length (by simp; omega)]
  exact List.take_of_length_le (by simp; omega)
theorem run_append_room2 (w : World) (ty : TypeId) (sp : Option Addr) (n cap m sc : Nat) (g : Nat) (cur : List Value) (hg : w.heap[g]? = some (.cells cur.toArray 42 (0, 0))) (cs : List Value) (hn : cs.length = m * 2)
    (hpos : 0 < cs.length → ∃ ad, sp = some ad ∧ ∀ j v, cs[j]? = some v → w.cell? (ad.add j) = some v) (hroom : n + m ≤ cap) (hfit : n * 2 + cs.length ≤ cur.length) (h1 : ∀ v ∈ cs, v.oneCell' = true) :
    ∃ w', (Builtin.append_ #[52, 52] ty #[.slice (some ⟨g, 0, none⟩) n cap, .slice sp m sc]).run Try.prog w = .ok (.slice (some ⟨g, 0, none⟩) (n + m) cap) w' ∧ w'.heap[g]? = some (.cells (splice cur (n * 2) cs).toArray 42 (0, 0)) ∧ w.grownBy w' (some g) := by
  obtain ⟨i, hi, _, hsz, _⟩ := info_parts info42
  by_cases h0 : cs.length = 0
  · have hm : m = 0 := by omega
    subst hm
    obtain rfl : cs = [] := List.eq_nil_of_length_eq_zero h0
    have hst : (storeCells ⟨g, n * 2, none⟩ [] 0).run Try.prog w = .ok () w := rfl
    refine ⟨w, ?_, by simpa [splice] using hg, ⟨rfl, rfl, rfl, Nat.le_refl _, fun _ _ _ => rfl⟩⟩
    have hr' : n ≤ cap := by omega
    cases sp <;> simp [Builtin.append_, run_underlying Try.underlying52, Builtin.lenOf, Builtin.firstCells, sizeOf, typeInfo, hi, hsz, hr', loadCells, loadCellsFrom, hst, Addr.add_lit]
  · obtain ⟨ad, rfl, hsrc⟩ := hpos (by omega)
    have hl := run_loadCells_list (P := Try.prog) w ad cs hsrc
    have hst := run_storeCells_at Try.prog g (n * 2) 42 cs 0 cur.toArray w hg (by simpa using hfit) h1
    refine ⟨_, ?_, setRow_heap w g cur.toArray ((splice cur (n * 2) cs).toArray) 42 (0, 0) hg, ⟨rfl, rfl, rfl, by simp, fun k _ hk => setRow_other w g k _ (fun e => hk (by rw [e]))⟩⟩
    simp [Builtin.append_, run_underlying Try.underlying52, Builtin.lenOf, Builtin.firstCells, sizeOf, typeInfo, hi, hsz, hroom, hn.symm, hl, hst, splice, Addr.add_lit]
theorem wpList_append_room2 {ops : Array Oper} {rest : List Oper} {o : Oper} {a : Act} {w : World} {Q : Exit → Act → World → Prop} (hgd : o.guard = none) (d s : Operand)
    (ho : o.op = .call { callee := .builtin .append, args := #[d, s], argTypes := #[52, 52] }) (sp : Option Addr) (n cap m sc : Nat) (g : Nat) (hd : a.eval d = .slice (some ⟨g, 0, none⟩) n cap) (hs : a.eval s = .slice sp m sc)
    (cur : List Value) (hg : w.heap[g]? = some (.cells cur.toArray 42 (0, 0))) (cs : List Value) (hn : cs.length = m * 2)
    (hpos : 0 < cs.length → ∃ ad, sp = some ad ∧ ∀ j v, cs[j]? = some v → w.cell? (ad.add j) = some v) (hroom : n + m ≤ cap) (hfit : n * 2 + cs.length ≤ cur.length) (h1 : ∀ v ∈ cs, v.oneCell' = true)
    (h : ∀ w', w'.heap[g]? = some (.cells (splice cur (n * 2) cs).toArray 42 (0, 0)) → w.grownBy w' (some g) → wpList Try.prog ops Q rest (a.put o.dst (.slice (some ⟨g, 0, none⟩) (n + m) cap)) w') : wpList Try.prog ops Q (o :: rest) a w := by
  refine wpList_step fun K hK => ?_
  have hw : Region.wanted o (yielded ops a.tmps) = true := by simp [Region.wanted, hgd]
  rw [if_pos hw]
  obtain ⟨w', hrun, h2, h3⟩ := run_append_room2 w o.type sp n cap m sc g cur hg cs hn hpos hroom hfit h1
  unfold Oper.wp
  simp [execOp, ho, resolve, invoke, builtin, hd, hs, hrun, Result.andThen]
  exact hK _ _ (h w' h2 h3)
end Go.Proofs.Ythjcohaldjfniaa.Ix.It
