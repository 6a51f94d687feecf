/- index: items as cells; copy, clear, append over them. -/
import Derived.Test.YthjcohaldjfniaaA1
namespace Go.Proofs.Ythjcohaldjfniaa.Ix.It
open Go Go.RowKit
theorem info42 : (Try.prog.info? 42).map (fun i => (i.zero, i.size, i.bytes)) = some (some (.agg #[.int .u64 0, .int .u64 0]), 2, 16) := by kernel_rfl
/-- Spans as cells. -/
def fl (L : List (Int × Int)) : List Value := L.flatMap fun t => [.int .u64 t.1, .int .u64 t.2]
theorem fl_len (L : List (Int × Int)) : (fl L).length = L.length * 2 := by
  induction L with
  | nil => rfl
  | cons t L ih => simp only [fl, List.flatMap_cons, List.length_append, List.length_cons, List.length_nil] at ih ⊢; omega
theorem fl_app (L M : List (Int × Int)) : fl (L ++ M) = fl L ++ fl M := by simp [fl]
theorem fl_take (L : List (Int × Int)) (n : Nat) : fl (L.take n) = (fl L).take (n * 2) := by
  induction L generalizing n with
  | nil => simp [fl]
  | cons t L ih =>
    cases n with
    | zero => simp [fl]
    | succ n =>
      have := ih n
      simp only [fl, List.take_succ_cons, List.flatMap_cons] at this ⊢
      rw [this, show (n + 1) * 2 = n * 2 + 2 by omega]
      rfl
theorem fl_drop (L : List (Int × Int)) (n : Nat) : fl (L.drop n) = (fl L).drop (n * 2) := by
  induction L generalizing n with
  | nil => simp [fl]
  | cons t L ih =>
    cases n with
    | zero => simp [fl]
    | succ n =>
      have := ih n
      simp only [fl, List.drop_succ_cons, List.flatMap_cons] at this ⊢
      rw [this, show (n + 1) * 2 = n * 2 + 2 by omega]
      rfl
theorem fl_one (L : List (Int × Int)) : ∀ u ∈ fl L, u.oneCell' = true := by
  intro u hu
  simp only [fl, List.mem_flatMap] at hu
  obtain ⟨t, _, hu⟩ := hu
  simp at hu
  rcases hu with rfl | rfl <;> rfl
theorem fl_at {L : List (Int × Int)} {k : Nat} {t : Int × Int} (h : L[k]? = some t) : (fl L)[k * 2]? = some (.int .u64 t.1) ∧ (fl L)[k * 2 + 1]? = some (.int .u64 t.2) := by
  induction L generalizing k with
  | nil => simp at h
  | cons x L ih =>
    cases k with
    | zero =>
      simp at h
      subst h
      exact ⟨rfl, rfl⟩
    | succ k =>
      have := ih (k := k) (by simpa using h)
      rw [show (k + 1) * 2 = k * 2 + 2 by omega, show k * 2 + 2 + 1 = (k * 2 + 1) + 2 by omega]
      exact this
/-- A slice of a row of the call's own: where it stands. -/
theorem own_slice {w : World} {B n : Nat} {v : Value} {xs : List Value} (h : w.ownsRow B 42 2 v n xs) : ∃ (ao : Option Addr) (cap : Nat), v = .slice ao n cap ∧ n ≤ cap ∧ (ao = none → n = 0 ∧ cap = 0) ∧ (0 < n → ∃ g, ao = some ⟨g, 0, none⟩ ∧ ∀ j u, xs[j]? = some u → w.cell? ⟨g, j, none⟩ = some u) := by
  rcases h.2 with ⟨h0, h1⟩ | ⟨g, cap, cur, h0, h1, h2, h3, _⟩
  · exact ⟨none, 0, by rw [h0, h1], by omega, fun _ => ⟨h1, rfl⟩, fun h => by omega⟩
  · refine ⟨some ⟨g, 0, none⟩, cap, h0, h3, fun e => by (cases e), fun _ => ⟨g, rfl, fun j u hu => ?_⟩⟩
    have := h.cells (g := g) (by rw [h0]; rfl) j u hu
    rwa [Go.WideShapes.add_plain, Nat.zero_add] at this
set_option maxRecDepth 100000 in
theorem size42 (i : TypeInfo) (h : Try.prog.info? 42 = some i) : i.size = 2 := by
  obtain ⟨i', h1, _, h2, _⟩ := info_parts info42
  rw [h] at h1
  injection h1 with h1
  rw [h1]; exact h2
theorem zero42 (w : World) : (zeroValue 42).run Try.prog w = .ok (.agg #[.int .u64 0, .int .u64 0]) w := by kernel_rfl
/-- copy: what has come where. -/
theorem run_copy2 (w : World) (ty : TypeId) (dp sp : Option Addr) (dLen dCap sLen sCap : Nat) (g off : Nat) (cur : List Value) (t : TypeId) (hg : w.heap[g]? = some (.cells cur.toArray t (0, 0))) (cs : List Value) (hn : cs.length = Nat.min sLen dLen * 2)
    (hpos : 0 < cs.length → dp = some ⟨g, off, none⟩ ∧ ∃ ad, sp = some ad ∧ ∀ j v, cs[j]? = some v → w.cell? (ad.add j) = some v) (hfit : off + cs.length ≤ cur.length) (h1 : ∀ v ∈ cs, v.oneCell' = true) :
    ∃ w', (Builtin.copy_ #[52, 52] ty #[.slice dp dLen dCap, .slice sp sLen sCap]).run Try.prog w = .ok (goInt (Nat.min sLen dLen)) w' ∧ w'.heap[g]? = some (.cells (splice cur off cs).toArray t (0, 0)) ∧ w.grownBy w' (some g) := by
  obtain ⟨i, hi, _, hsz, _⟩ := info_parts info42
  by_cases h0 : cs.length = 0
  · have hm : Nat.min sLen dLen = 0 := by omega
    obtain rfl : cs = [] := List.eq_nil_of_length_eq_zero h0
    refine ⟨w, ?_, by simpa [splice] using hg, ⟨rfl, rfl, rfl, Nat.le_refl _, fun _ _ _ => rfl⟩⟩
    have hm' : min sLen dLen = 0 := hm
    cases dp <;> cases sp <;> simp [Builtin.copy_, run_underlying Try.underlying52, Builtin.lenOf, Builtin.firstCells, sizeOf, typeInfo, hi, hm', loadCells, storeCells, loadCellsFrom]
  · obtain ⟨rfl, ad, rfl, hsrc⟩ := hpos (by omega)
    have hl := run_loadCells_list (P := Try.prog) w ad cs hsrc
    have hst := run_storeCells_at Try.prog g off t cs 0 cur.toArray w hg (by simpa using hfit) h1
    refine ⟨_, ?_, setRow_heap w g cur.toArray ((splice cur off cs).toArray) t (0, 0) hg, ⟨rfl, rfl, rfl, by simp, fun k _ hk => setRow_other w g k _ (fun e => hk (by rw [e]))⟩⟩
    have hn' : min sLen dLen * 2 = cs.length := hn.symm
    simp [Builtin.copy_, run_underlying Try.underlying52, Builtin.lenOf, Builtin.firstCells, sizeOf, typeInfo, hi, hsz, hn', hl, hst, splice]
theorem step_copy2 {ops : Array Oper} {o : Oper} {a : Act} {w : World} {K : Act → World → Prop} {Q : Exit → Act → World → Prop} {E : Prop} (hgd : o.guard = none) (d s : Operand)
    (ho : o.op = .call { callee := .builtin .copy, args := #[d, s], argTypes := #[52, 52] }) (dp sp : Option Addr) (dLen dCap sLen sCap : Nat) (hd : a.eval d = .slice dp dLen dCap) (hs : a.eval s = .slice sp sLen sCap)
    (g off : Nat) (cur : List Value) (t : TypeId) (hg : w.heap[g]? = some (.cells cur.toArray t (0, 0))) (cs : List Value) (hn : cs.length = Nat.min sLen dLen * 2)
    (hpos : 0 < cs.length → dp = some ⟨g, off, none⟩ ∧ ∃ ad, sp = some ad ∧ ∀ j v, cs[j]? = some v → w.cell? (ad.add j) = some v) (hfit : off + cs.length ≤ cur.length) (h1 : ∀ v ∈ cs, v.oneCell' = true)
    (h : ∀ w', w'.heap[g]? = some (.cells (splice cur off cs).toArray t (0, 0)) → w.grownBy w' (some g) → K (a.put o.dst (goInt (Nat.min sLen dLen))) w') : if Region.wanted o (yielded ops a.tmps) = true then Oper.wp Try.prog o a w K Q else E := by
  have hw : Region.wanted o (yielded ops a.tmps) = true := by simp [Region.wanted, hgd]
  rw [if_pos hw]
  obtain ⟨w', hrun, h2, h3⟩ := run_copy2 w o.type dp sp dLen dCap sLen sCap g off cur t hg cs hn hpos hfit h1
  unfold Oper.wp
  simp [execOp, ho, resolve, invoke, builtin, hd, hs, hrun, Result.andThen]
  exact h w' h2 h3
theorem wpList_copy2 {ops : Array Oper} {rest : List Oper} {o : Oper} {a : Act} {w : World} {Q : Exit → Act → World → Prop} (hgd : o.guard = none) (d s : Operand)
    (ho : o.op = .call { callee := .builtin .copy, args := #[d, s], argTypes := #[52, 52] }) (dp sp : Option Addr) (dLen dCap sLen sCap : Nat) (hd : a.eval d = .slice dp dLen dCap) (hs : a.eval s = .slice sp sLen sCap)
    (g off : Nat) (cur : List Value) (t : TypeId) (hg : w.heap[g]? = some (.cells cur.toArray t (0, 0))) (cs : List Value) (hn : cs.length = Nat.min sLen dLen * 2)
    (hpos : 0 < cs.length → dp = some ⟨g, off, none⟩ ∧ ∃ ad, sp = some ad ∧ ∀ j v, cs[j]? = some v → w.cell? (ad.add j) = some v) (hfit : off + cs.length ≤ cur.length) (h1 : ∀ v ∈ cs, v.oneCell' = true)
    (h : ∀ w', w'.heap[g]? = some (.cells (splice cur off cs).toArray t (0, 0)) → w.grownBy w' (some g) → wpList Try.prog ops Q rest (a.put o.dst (goInt (Nat.min sLen dLen))) w') : wpList Try.prog ops Q (o :: rest) a w := by
  refine wpList_step fun K hK => ?_
  exact step_copy2 hgd d s ho dp sp dLen dCap sLen sCap hd hs g off cur t hg cs hn hpos hfit h1 (fun w' h2 h3 => hK _ _ (h w' h2 h3))
def Zs (n : Nat) : List Value := fl (List.replicate n (0, 0))
theorem zs_len (n : Nat) : (Zs n).length = n * 2 := by rw [Zs, fl_len, List.length_replicate]
theorem zero_cells (n : Nat) : Builtin.zeroCells (Value.agg #[.int .u64 0, .int .u64 0]).cells n = (Zs n).toArray := by
  apply Array.ext_getElem?
  intro i
  simp only [Builtin.zeroCells, Value.cells, List.getElem?_toArray]
  by_cases hi : i < n * 2
  · have hk : (List.replicate n ((0, 0) : Int × Int))[i / 2]? = some (0, 0) := by rw [List.getElem?_replicate, if_pos (by omega)]
    obtain ⟨a1, a2⟩ := fl_at hk
    rw [Array.getElem?_eq_getElem (by simpa using hi)]
    rcases Nat.mod_two_eq_zero_or_one i with h | h
    · have e : i = i / 2 * 2 := by omega
      have : (Zs n)[i]? = some (.int .u64 0) := by rw [Zs, e]; exact a1
      rw [this]
      simp [h]
    · have e : i = i / 2 * 2 + 1 := by omega
      have : (Zs n)[i]? = some (.int .u64 0) := by rw [Zs, e]; exact a2
      rw [this]
      simp [h]
  · rw [Array.getElem?_eq_none (by simpa using hi), List.getElem?_eq_none (by rw [zs_len]; omega)]
/-- clear: the block has as many cells as it had, and the same ahead. -/
theorem run_clear2 (w : World) (ty : TypeId) (dp : Option Addr) (n c : Nat) (g off : Nat) (cur : List Value) (t : TypeId) (hg : w.heap[g]? = some (.cells cur.toArray t (0, 0))) (hpos : 0 < n → dp = some ⟨g, off, none⟩) (hfit : off + n * 2 ≤ cur.length) :
    ∃ w', (Builtin.clear_ #[52] ty #[.slice dp n c]).run Try.prog w = .ok (.tuple #[]) w' ∧ w'.heap[g]? = some (.cells (splice cur off (Zs n)).toArray t (0, 0)) ∧ w.grownBy w' (some g) := by
  by_cases h0 : n = 0
  · subst h0
    refine ⟨w, ?_, by simpa [splice, Zs, fl] using hg, ⟨rfl, rfl, rfl, Nat.le_refl _, fun _ _ _ => rfl⟩⟩
    cases dp <;> simp [Builtin.clear_, run_underlying Try.underlying52]
  · obtain rfl := hpos (by omega)
    have hst := run_storeCells_at Try.prog g off t (Zs n) 0 cur.toArray w hg (by rw [zs_len]; simpa using hfit) (fl_one _)
    refine ⟨_, ?_, setRow_heap w g cur.toArray ((splice cur off (Zs n)).toArray) t (0, 0) hg, ⟨rfl, rfl, rfl, by simp, fun k _ hk => setRow_other w g k _ (fun e => hk (by rw [e]))⟩⟩
    obtain ⟨m, rfl⟩ : ∃ m, n = m + 1 := ⟨n - 1, by omega⟩
    simp [Builtin.clear_, run_underlying Try.underlying52, zero_cells, hst, splice]
theorem wpList_clear2 {ops : Array Oper} {rest : List Oper} {o : Oper} {a : Act} {w : World} {Q : Exit → Act → World → Prop} (hgd : o.guard = none) (d : Operand)
    (ho : o.op = .call { callee := .builtin .clear, args := #[d], argTypes := #[52] }) (dp : Option Addr) (n c : Nat) (hd : a.eval d = .slice dp n c) (g off : Nat) (cur : List Value) (t : TypeId) (hg : w.heap[g]? = some (.cells cur.toArray t (0, 0))) (hpos : 0 < n → dp = some ⟨g, off, none⟩) (hfit : off + n * 2 ≤ cur.length)
    (h : ∀ w', w'.heap[g]? = some (.cells (splice cur off (Zs n)).toArray t (0, 0)) → w.grownBy w' (some g) → wpList Try.prog ops Q rest (a.put o.dst (.tuple #[])) w') : wpList Try.prog ops Q (o :: rest) a w := by
  refine wpList_step fun K hK => ?_
  have hw : Region.wanted o (yielded ops a.tmps) = true := by simp [Region.wanted, hgd]
  rw [if_pos hw]
  obtain ⟨w', hrun, h2, h3⟩ := run_clear2 w o.type dp n c g off cur t hg hpos hfit
  unfold Oper.wp
  simp [execOp, ho, resolve, invoke, builtin, hd, hrun, Result.andThen]
  exact hK _ _ (h w' h2 h3)
/-- append of a make where there is no room. -/
theorem run_append_made2 (w : World) (g n cap ty m : Nat) (xs : List Value) (hc : ∀ j u, xs[j]? = some u → w.cell? ⟨g, j, none⟩ = some u) (hl : xs.length = n * 2) (hroom : ¬ n + m ≤ cap) (hcap : n ≤ cap) (hn : n ≤ 1000000) (hm : m ≤ 1000000) :
    ∃ cap' w' cur, (Builtin.append_ #[52, 3] ty #[.slice (some ⟨g, 0, none⟩) n cap, .int .i64 m]).run Try.prog w = .ok (.slice (some ⟨w.heap.size, 0, none⟩) (n + m) cap') w' ∧ w'.heap[w.heap.size]? = some (.cells (List.toArray cur) 42 (0, 0)) ∧ cur.length = cap' * 2 ∧ n + m ≤ cap' ∧ cap' ≤ maxLen ∧ cur.take (n * 2) = xs ∧ w.grownBy w' none := by
  obtain ⟨i, hi, hz, hsz, hby⟩ := info_parts info42
  have hwm : IntKind.i64.wrap (m : Int) = m := by simp [IntKind.wrap, IntKind.bits, IntKind.signed]; omega
  have hai : ∀ (k : Int) (w : World), (asInt (.int .i64 k)).run Try.prog w = .ok k w := fun k w => by simp [asInt, asIntOf]
  have h1 : ¬ ((m : Int) < 0) := by omega
  have h2 : ¬ (281474976710656 < (m : Int) * 16) := by omega
  have h0 : m ≠ 0 := by omega
  have hge := grownCap_ge w (n + m) cap 42
  have hcm := grownCap_le_maxLen w (n + m) cap 42 (by unfold maxLen; omega)
  have hfo := run_firstCells_some (P := Try.prog) w.drew 2 n ⟨g, 0, none⟩ n cap xs (by rw [hl]) (fun j u hu => by
    rw [Go.WideShapes.add_plain, Nat.zero_add]
    exact hc j u hu)
  have h63' : ¬ (9223372036854775807 < (n : Int) + (m : Int)) := by omega
  have h48 := growslice_fits (need := n + m) (old := cap) (bytes := 16) (by omega) (by omega)
  have h48' : ¬ (281474976710656 < Builtin.nextslicecap (n + m) cap * 16) := by omega
  refine ⟨grownCap w (n + m) cap 42, w.drew.alloc (.cells ((xs ++ Zs m ++ Zs (grownCap w (n + m) cap 42 - (n + m))).toArray) 42), xs ++ Zs m ++ Zs (grownCap w (n + m) cap 42 - (n + m)), ?_, heap_alloc_new w.drew _, ?_, hge, hcm, ?_, ⟨rfl, rfl, rfl, by simp, fun k hk _ => heap_alloc_old w.drew _ hk⟩⟩
  · simp [Builtin.append_, run_underlying Try.underlying52, run_underlying Try.underlying3, sizeOf, typeInfo, zeroValue, hi, hz, hsz, hby, Builtin.lenOf, hroom, hwm, hai, h1, h2, h63', h48', Addr.add_lit, zero_cells, hfo, Question.forced, newRow, grownCap]
    intro h; omega
  · simp only [List.length_append, hl, zs_len]
    omega
  · rw [List.append_assoc, List.take_append_of_le_length (by omega)]
    exact List.take_of_length_le (by omega)
theorem wpList_append_made2 {ops : Array Oper} {rest : List Oper} {o : Oper} {a : Act} {w : World} {Q : Exit → Act → World → Prop} (hgd : o.guard = none) (s x : Operand)
    (ho : o.op = .call { callee := .builtin .append, args := #[s, x], argTypes := #[52, 3] }) (g n cap m : Nat) (xs : List Value) (hs : a.eval s = .slice (some ⟨g, 0, none⟩) n cap) (hx : a.eval x = .int .i64 m)
    (hc : ∀ j u, xs[j]? = some u → w.cell? ⟨g, j, none⟩ = some u) (hl : xs.length = n * 2) (hroom : ¬ n + m ≤ cap) (hcap : n ≤ cap) (hn : n ≤ 1000000) (hm : m ≤ 1000000)
    (h : ∀ cap' w' cur, w'.heap[w.heap.size]? = some (.cells (List.toArray cur) 42 (0, 0)) → cur.length = cap' * 2 → n + m ≤ cap' → cap' ≤ maxLen → cur.take (n * 2) = xs → w.grownBy w' none → wpList Try.prog ops Q rest (a.put o.dst (.slice (some ⟨w.heap.size, 0, none⟩) (n + m) cap')) w') : wpList Try.prog ops Q (o :: rest) a w := by
  refine wpList_step fun K hK => ?_
  have hw : Region.wanted o (yielded ops a.tmps) = true := by simp [Region.wanted, hgd]
  rw [if_pos hw]
  obtain ⟨cap', w', cur, hrun, h1, h2, h3, h4, h5, h6⟩ := run_append_made2 w g n cap o.type m xs hc hl hroom hcap hn hm
  unfold Oper.wp
  simp [execOp, ho, resolve, invoke, builtin, hs, hx, hrun, Result.andThen]
  exact hK _ _ (h cap' w' cur h1 h2 h3 h4 h5 h6)
/-- What stands ahead behind two splices, in either order. -/
theorem splice_two (cur ys zs : List Value) (a b : Nat) (hb : b = a + ys.length) (hfit : b + zs.length ≤ cur.length) : (splice (splice cur a ys) b zs).take (b + zs.length) = cur.take a ++ ys ++ zs ∧ (splice (splice cur b zs) a ys).take (b + zs.length) = cur.take a ++ ys ++ zs := by
  subst hb
  have e1 : (splice cur a ys).take (a + ys.length) = cur.take a ++ ys := by
    unfold splice
    rw [← List.append_assoc, List.take_append_of_le_length (by simp; omega)]
    exact List.take_of_length_le (by simp; omega)
  have e2 : (splice cur (a + ys.length) zs).take a = cur.take a := by
    unfold splice
    rw [List.take_append_of_le_length (by simp; omega), List.take_take, Nat.min_eq_left (by omega)]
  have e3 : (splice cur (a + ys.length) zs).drop (a + ys.length) = zs ++ cur.drop (a + ys.length + zs.length) := by
    unfold splice
    rw [List.drop_append_of_le_length (by simp; omega), List.drop_eq_nil_of_le (by simp; omega), List.nil_append]
  constructor
  · rw [show splice (splice cur a ys) (a + ys.length) zs = (splice cur a ys).take (a + ys.length) ++ (zs ++ (splice cur a ys).drop (a + ys.length + zs.length)) from rfl, e1, ← List.append_assoc, List.take_append_of_le_length (by simp; omega)]
    exact List.take_of_length_le (by simp; omega)
  · rw [show splice (splice cur (a + ys.length) zs) a ys = (splice cur (a + ys.length) zs).take a ++ (ys ++ (splice cur (a + ys.length) zs).drop (a + ys.length)) from rfl, e2, e3, ← List.append_assoc, ← List.append_assoc, List.take_append_of_le_length (by simp; omega)]
    exact List.take_of_length_le (by simp; omega)
theorem splice_take (cur ys : List Value) (a k : Nat) (hk : k ≤ a) (ha : a ≤ cur.length) : (splice cur a ys).take k = cur.take k := by
  unfold splice
  rw [List.take_append_of_le_length (by simp; omega), List.take_take, Nat.min_eq_left hk]
theorem own_mk {w : World} {B g n cap : Nat} {cur xs : List Value} (hB : B ≤ g) (hg : w.heap[g]? = some (.cells cur.toArray 42 (0, 0))) (hc : cur.length = cap * 2) (hn : n ≤ cap) (hm : cap ≤ maxLen) (ht : cur.take (n * 2) = xs) : w.ownsRow B 42 2 (.slice (some ⟨g, 0, none⟩) n cap) n xs :=
  ⟨by rw [← ht, List.length_take]; omega, .inr ⟨g, cap, cur.toArray, rfl, hB, hg, hn, hm, by simpa using hc, by simpa using ht⟩⟩
/-- The spans that come in, in a block beside the row. -/
def SrcY (w : World) (v : Value) (so : Option Addr) (m : Nat) (ys : List (Int × Int)) : Prop :=
  ys.length = m ∧ (0 < m → ∃ b, so = some ⟨b, 0, none⟩ ∧ v.ownBlock ≠ some b ∧ ∃ src, w.heap[b]? = some (.cells src 42 (0, 0)) ∧ ∀ (k : Nat) (u : Value), (fl ys)[k]? = some u → src[k]? = some u)
def RepR (w : World) (B : Nat) (v : Value) (M : List (Int × Int)) (e : Ending) (w' : World) : Prop :=
  ∃ v', e = .returned v' ∧ w'.ownsRow B 42 2 v' M.length (fl M) ∧ w.grownBy w' v.ownBlock ∧ ∀ g, v'.ownBlock = some g → v.ownBlock = some g ∨ w.heap.size ≤ g
theorem SrcY.cells {w : World} {v : Value} {so : Option Addr} {m : Nat} {ys : List (Int × Int)} (h : SrcY w v so m ys) (h0 : 0 < m) : ∃ b, so = some ⟨b, 0, none⟩ ∧ v.ownBlock ≠ some b ∧ b < w.heap.size ∧ (∃ src, w.heap[b]? = some (.cells src 42 (0, 0)) ∧ 0 < src.size) ∧ ∀ w', w.grownBy w' v.ownBlock → ∀ (k : Nat) (u : Value), (fl ys)[k]? = some u → w'.cell? ⟨b, k, none⟩ = some u := by
  obtain ⟨b, rfl, h1, src, h2, h3⟩ := h.2 h0
  have hb := (Array.getElem?_eq_some_iff.1 h2).1
  refine ⟨b, rfl, h1, hb, ⟨src, h2, ?_⟩, fun w' hg k u hu => ?_⟩
  · have hl := fl_len ys
    rw [h.1] at hl
    obtain ⟨u, hu⟩ : ∃ u, (fl ys)[0]? = some u := ⟨_, List.getElem?_eq_getElem (by omega)⟩
    have := (Array.getElem?_eq_some_iff.1 (h3 0 u hu)).1
    omega
  · have h2' := (hg.block b hb (fun e => h1 e.symm)).trans h2
    rw [show w'.cell? ⟨b, k, none⟩ = src[k]? from by simp [World.cell?, h2']]
    exact h3 k u hu
/-- Two slices in two blocks share nothing. -/
theorem overlaps_no (w : World) (p q : Addr) (hp : p.spot = none) (hne : p.block ≠ q.block) {cp cq : Array Value} {tp tq : TypeId} (h1 : w.heap[p.block]? = some (.cells cp tp (0, 0))) (h2 : w.heap[q.block]? = some (.cells cq tq (0, 0))) (h0 : 0 < cq.size) (la ca lb cb : Nat) :
    (callFunc 37 #[.slice (some p) la ca, .slice (some q) lb cb]).run Try.prog w = .ok (.value (.bool false)) w := by
  rw [run_callFunc_extern Try.func37 (by kernel_rfl) (by kernel_rfl) (by kernel_rfl) (e := Extern.SlicesOverlaps.overlaps #[52, 52] #[4]) (by kernel_rfl),
    Lib.run_overlaps_apart w 52 4 42 Try.underlying52 2 (fun w => by kernel_rfl) p q la ca lb cb hne tp tq cp.size cq.size (by simp [World.shape?, h1]) (by simp [World.shape?, h2]) (by omega) (by cases p; simp_all [World.frozen?]) (by simp [World.frozen?, h1])]
  rfl
/-- A row of the call's own, its block written out. -/
theorem own_block {w : World} {B n : Nat} {v : Value} {xs : List Value} (h : w.ownsRow B 42 2 v n xs) (h0 : 0 < n) : ∃ (g cap : Nat) (cur : List Value), v = .slice (some ⟨g, 0, none⟩) n cap ∧ B ≤ g ∧ g < w.heap.size ∧ w.heap[g]? = some (.cells cur.toArray 42 (0, 0)) ∧ cur.length = cap * 2 ∧ n ≤ cap ∧ cap ≤ maxLen ∧ cur.take (n * 2) = xs := by
  rcases h.2 with ⟨_, h1⟩ | ⟨g, cap, cur, h1, h2, h3, h4, h5, h6, h7⟩
  · omega
  · exact ⟨g, cap, cur.toList, h1, h2, (Array.getElem?_eq_some_iff.1 h3).1, by simpa using h3, by simpa using h6, h4, h5, h7⟩
end Go.Proofs.Ythjcohaldjfniaa.Ix.It
