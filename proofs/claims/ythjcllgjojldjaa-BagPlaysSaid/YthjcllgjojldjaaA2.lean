/- bag: a row of messages: cells, Delete. -/
import Derived.Test.YthjcllgjojldjaaA1
namespace Go.Proofs.Ythjcllgjojldjaa.Bg
open Go Go.RowKit
theorem info30 : (Try.prog.info? 30).map (fun i => (i.zero, i.size, i.bytes)) = some (some (.slice none 0 0), 1, 24) := by kernel_rfl
def Zs (n : Nat) : List Value := List.replicate n (.slice none 0 0)
theorem zs_len (n : Nat) : (Zs n).length = n := by simp [Zs]
theorem zs_one (n : Nat) : ∀ u ∈ Zs n, u.oneCell' = true := by
  intro u hu
  simp only [Zs, List.mem_replicate] at hu
  obtain ⟨_, rfl⟩ := hu
  rfl
theorem zero_cells (n : Nat) : Builtin.zeroCells (Value.slice none 0 0).cells n = (Zs n).toArray := by
  apply Array.ext_getElem?
  intro i
  simp only [Builtin.zeroCells, Value.cells, List.getElem?_toArray, Zs]
  by_cases hi : i < n
  · rw [Array.getElem?_eq_getElem (by simpa using hi)]
    simp [hi, Nat.mod_one]
  · rw [Array.getElem?_eq_none (by simpa using hi), List.getElem?_eq_none (by simpa using hi)]
set_option maxRecDepth 100000 in
theorem size30 (i : TypeInfo) (h : Try.prog.info? 30 = some i) : i.size = 1 := by
  obtain ⟨i', h1, _, h2, _⟩ := info_parts info30
  rw [h] at h1
  injection h1 with h1
  rw [h1]; exact h2
/-- clear: the block has as many cells as it had, and the same ahead. -/
theorem run_clear2 (w : World) (ty : TypeId) (dp : Option Addr) (n c : Nat) (g off : Nat) (cur : List Value) (t : TypeId) (hg : w.heap[g]? = some (.cells cur.toArray t (0, 0))) (hpos : 0 < n → dp = some ⟨g, off, none⟩) (hfit : off + n ≤ cur.length) :
    ∃ w', (Builtin.clear_ #[27] ty #[.slice dp n c]).run Try.prog w = .ok (.tuple #[]) w' ∧ w'.heap[g]? = some (.cells (splice cur off (Zs n)).toArray t (0, 0)) ∧ w.grownBy w' (some g) := by
  by_cases h0 : n = 0
  · subst h0
    refine ⟨w, ?_, by simpa [splice, Zs] using hg, ⟨rfl, rfl, rfl, Nat.le_refl _, fun _ _ _ => rfl⟩⟩
    cases dp <;> simp [Builtin.clear_, run_underlying Try.underlying27]
  · obtain rfl := hpos (by omega)
    have hst := run_storeCells_at Try.prog g off t (Zs n) 0 cur.toArray w hg (by rw [zs_len]; simpa using hfit) (zs_one _)
    refine ⟨_, ?_, setRow_heap w g cur.toArray ((splice cur off (Zs n)).toArray) t (0, 0) hg, ⟨rfl, rfl, rfl, by simp, fun k _ hk => setRow_other w g k _ (fun e => hk (by rw [e]))⟩⟩
    obtain ⟨m, rfl⟩ : ∃ m, n = m + 1 := ⟨n - 1, by omega⟩
    simp [Builtin.clear_, run_underlying Try.underlying27, zero_cells, hst, splice]
theorem wpList_clear2 {ops : Array Oper} {rest : List Oper} {o : Oper} {a : Act} {w : World} {Q : Exit → Act → World → Prop} (hgd : o.guard = none) (d : Operand)
    (ho : o.op = .call { callee := .builtin .clear, args := #[d], argTypes := #[27] }) (dp : Option Addr) (n c : Nat) (hd : a.eval d = .slice dp n c) (g off : Nat) (cur : List Value) (t : TypeId) (hg : w.heap[g]? = some (.cells cur.toArray t (0, 0))) (hpos : 0 < n → dp = some ⟨g, off, none⟩) (hfit : off + n ≤ cur.length)
    (h : ∀ w', w'.heap[g]? = some (.cells (splice cur off (Zs n)).toArray t (0, 0)) → w.grownBy w' (some g) → wpList Try.prog ops Q rest (a.put o.dst (.tuple #[])) w') : wpList Try.prog ops Q (o :: rest) a w := by
  refine wpList_step fun K hK => ?_
  have hw : Region.wanted o (yielded ops a.tmps) = true := by simp [Region.wanted, hgd]
  rw [if_pos hw]
  obtain ⟨w', hrun, h2, h3⟩ := run_clear2 w o.type dp n c g off cur t hg hpos hfit
  unfold Oper.wp
  simp [execOp, ho, resolve, invoke, builtin, hd, hrun, Result.andThen]
  exact hK _ _ (h w' h2 h3)
theorem splice_take (cur ys : List Value) (a k : Nat) (hk : k ≤ a) (ha : a ≤ cur.length) : (splice cur a ys).take k = cur.take k := by
  unfold splice
  rw [List.take_append_of_le_length (by simp; omega), List.take_take, Nat.min_eq_left hk]
theorem own_mk {w : World} {B g n cap : Nat} {cur xs : List Value} (hB : B ≤ g) (hg : w.heap[g]? = some (.cells cur.toArray 30 (0, 0))) (hc : cur.length = cap) (hn : n ≤ cap) (hm : cap ≤ maxLen) (ht : cur.take (n) = xs) : w.ownsRow B 30 1 (.slice (some ⟨g, 0, none⟩) n cap) n xs :=
  ⟨by rw [← ht, List.length_take]; omega, .inr ⟨g, cap, cur.toArray, rfl, hB, hg, hn, hm, by simpa using hc, by simpa using ht⟩⟩
theorem splice_head (cur ys : List Value) (a : Nat) (h : a ≤ cur.length) : (splice cur a ys).take (a + ys.length) = cur.take a ++ ys := by
  unfold splice
  rw [← List.append_assoc, List.take_append_of_le_length (by simp; omega)]
  exact List.take_of_length_le (by simp; omega)
theorem run_append_room2 (w : World) (ty : TypeId) (sp : Option Addr) (n cap m sc : Nat) (g : Nat) (cur : List Value) (hg : w.heap[g]? = some (.cells cur.toArray 30 (0, 0))) (cs : List Value) (hn : cs.length = m)
    (hpos : 0 < cs.length → ∃ ad, sp = some ad ∧ ∀ j v, cs[j]? = some v → w.cell? (ad.add j) = some v) (hroom : n + m ≤ cap) (hfit : n + cs.length ≤ cur.length) (h1 : ∀ v ∈ cs, v.oneCell' = true) :
    ∃ w', (Builtin.append_ #[27, 27] ty #[.slice (some ⟨g, 0, none⟩) n cap, .slice sp m sc]).run Try.prog w = .ok (.slice (some ⟨g, 0, none⟩) (n + m) cap) w' ∧ w'.heap[g]? = some (.cells (splice cur (n) cs).toArray 30 (0, 0)) ∧ w.grownBy w' (some g) := by
  obtain ⟨i, hi, _, hsz, _⟩ := info_parts info30
  by_cases h0 : cs.length = 0
  · have hm : m = 0 := by omega
    subst hm
    obtain rfl : cs = [] := List.eq_nil_of_length_eq_zero h0
    have hst : (storeCells ⟨g, n, none⟩ [] 0).run Try.prog w = .ok () w := rfl
    refine ⟨w, ?_, by simpa [splice] using hg, ⟨rfl, rfl, rfl, Nat.le_refl _, fun _ _ _ => rfl⟩⟩
    have hr' : n ≤ cap := by omega
    cases sp <;> simp [Builtin.append_, run_underlying Try.underlying27, Builtin.lenOf, Builtin.firstCells, sizeOf, typeInfo, hi, hsz, hr', loadCells, loadCellsFrom, hst, Addr.add_lit]
  · subst hn
    obtain ⟨ad, rfl, hsrc⟩ := hpos (by omega)
    have hl := run_loadCells_list (P := Try.prog) w ad cs hsrc
    have hst := run_storeCells_at Try.prog g (n) 30 cs 0 cur.toArray w hg (by simpa using hfit) h1
    refine ⟨_, ?_, setRow_heap w g cur.toArray ((splice cur (n) cs).toArray) 30 (0, 0) hg, ⟨rfl, rfl, rfl, by simp, fun k _ hk => setRow_other w g k _ (fun e => hk (by rw [e]))⟩⟩
    simp [Builtin.append_, run_underlying Try.underlying27, Builtin.lenOf, Builtin.firstCells, sizeOf, typeInfo, hi, hsz, hroom, hl, hst, splice, Addr.add_lit]
theorem step_append_room2 {ops : Array Oper} {o : Oper} {a : Act} {w : World} {K : Act → World → Prop} {Q : Exit → Act → World → Prop} {E : Prop} (hgd : o.guard = none) (d s : Operand)
    (ho : o.op = .call { callee := .builtin .append, args := #[d, s], argTypes := #[27, 27] }) (sp : Option Addr) (n cap m sc : Nat) (g : Nat) (hd : a.eval d = .slice (some ⟨g, 0, none⟩) n cap) (hs : a.eval s = .slice sp m sc)
    (cur : List Value) (hg : w.heap[g]? = some (.cells cur.toArray 30 (0, 0))) (cs : List Value) (hn : cs.length = m)
    (hpos : 0 < cs.length → ∃ ad, sp = some ad ∧ ∀ j v, cs[j]? = some v → w.cell? (ad.add j) = some v) (hroom : n + m ≤ cap) (hfit : n + cs.length ≤ cur.length) (h1 : ∀ v ∈ cs, v.oneCell' = true)
    (h : ∀ w', w'.heap[g]? = some (.cells (splice cur (n) cs).toArray 30 (0, 0)) → w.grownBy w' (some g) → K (a.put o.dst (.slice (some ⟨g, 0, none⟩) (n + m) cap)) w') : if Region.wanted o (yielded ops a.tmps) = true then Oper.wp Try.prog o a w K Q else E := by
  have hw : Region.wanted o (yielded ops a.tmps) = true := by simp [Region.wanted, hgd]
  rw [if_pos hw]
  obtain ⟨w', hrun, h2, h3⟩ := run_append_room2 w o.type sp n cap m sc g cur hg cs hn hpos hroom hfit h1
  unfold Oper.wp
  simp [execOp, ho, resolve, invoke, builtin, hd, hs, hrun, Result.andThen]
  exact h w' h2 h3
def DelR (B : Nat) (v : Value) (n : Nat) (xs : List Value) (i : Nat) (w : World) (e : Ending) (w' : World) : Prop :=
  ∃ v', e = .returned v' ∧ v'.ownBlock = v.ownBlock ∧ w'.ownsRow B 30 1 v' (n - 1) (xs.take i ++ xs.drop (i + 1)) ∧ w.grownBy w' v.ownBlock
set_option maxRecDepth 100000 in
set_option maxHeartbeats 1000000 in
theorem delete_any (B : Nat) (v : Value) (n : Nat) (xs : List Value) (i j : Nat) (hj : j = i + 1) (w : World) (h : w.ownsRow B 30 1 v n xs) (h1 : ∀ u ∈ xs, u.oneCell' = true) (hi : i < n) (hn : n ≤ 100000) :
    Calls Try.prog 26 #[v, .int .i64 i, .int .i64 j] w (DelR B v n xs i w) := by
  have hxl : xs.length = n := by have := h.1; omega
  rcases h.2 with ⟨_, h0⟩ | ⟨g, cap, cur, rfl, hB, hg, hnc, hcm, hc, ht⟩
  · omega
  have en := hxl
  have HP := Lib.hid en
  have q1 : (j : Int) ≤ (n : Int) := by omega
  have q2 : (n : Int) ≤ (cap : Int) := by omega
  have q3 : ((i : Int) == (j : Int)) = false := beq_eq_false_iff_ne.2 (by omega)
  have q4 : (i : Int) ≤ (cap : Int) := by omega
  have q5 : (j : Int) ≤ (cap : Int) := by omega
  have q6 : (i : Int) ≤ (j : Int) := by omega
  have HG := Lib.hid hg
  have HC := Lib.hid (And.intro hc (And.intro hcm ht))
  have H1 := Lib.hid h1
  have HB := Lib.hid hB
  have hci : ¬ cap = i := by omega
  have ij : i < j := by omega
  have HJ := Lib.hid hj
  clear hg hc hcm ht en hj h h1 hxl hB
  obtain ⟨cl, hcl⟩ : ∃ cl : List Value, cur.toList = cl := ⟨_, rfl⟩
  have hca : cur = cl.toArray := by rw [← hcl]
  subst hca
  have HC : Hid (cl.length = cap ∧ cap ≤ maxLen ∧ cl.take n = xs) := Lib.hid ⟨by simpa using HC.out.1, HC.out.2.1, by simpa using HC.out.2.2⟩
  clear hcl
  go_enter Try.func26, Try.ntmps26
  go_upto_region 5 with fail
  have hsrc : ∀ k u, (xs.drop j)[k]? = some u → w.cell? ((⟨g, j, none⟩ : Addr).add k) = some u := fun k u hu => by
    rw [Go.WideShapes.add_plain, show w.cell? ⟨g, j + k, none⟩ = cl[j + k]? from by simp [World.cell?, HG.out]]
    rw [List.getElem?_drop, ← HC.out.2.2, List.getElem?_take] at hu
    split at hu
    · exact hu
    · cases hu
  have HS := Lib.hid hsrc
  have lf : (xs.drop j).length = n - j := by rw [List.length_drop, HP.out]
  have l1 : (splice cl i (xs.drop j)).length = cap := by rw [length_splice _ _ _ (by rw [lf, HC.out.1]; omega), HC.out.1]
  have t1 : (splice cl i (xs.drop j)).take (n - 1) = xs.take i ++ xs.drop j := by
    have e := splice_head cl (xs.drop j) i (by rw [HC.out.1]; omega)
    rw [lf, show i + (n - j) = n - 1 by have := HJ.out; omega] at e
    rw [e, ← HC.out.2.2, List.take_take, Nat.min_eq_left (by omega)]
  have LF := Lib.hid lf
  have LL := Lib.hid (And.intro l1 t1)
  have fin : ∀ w', (∃ cur', w'.heap[g]? = some (.cells (List.toArray cur') 30 (0, 0)) ∧ cur'.length = cap ∧ cur'.take (n - 1) = xs.take i ++ xs.drop j) → w.grownBy w' (some g) → DelR B (.slice (some ⟨g, 0, none⟩) n cap) n xs i w (.returned (.slice (some ⟨g, 0, none⟩) (n - 1) cap)) w' := fun w' ⟨cur', h1, h2, h3⟩ h4 => by
    obtain rfl := HJ.out
    exact ⟨_, rfl, rfl, own_mk HB.out h1 h2 (by omega) HC.out.2.1 h3, h4⟩
  have Fin := Lib.hid fin
  clear hsrc lf l1 t1 fin
  have H1d : Hid (∀ u ∈ xs.drop j, u.oneCell' = true) := Lib.hid (fun u hu => H1.out u (List.mem_of_mem_drop hu))
  obtain ⟨d, hd⟩ : ∃ d : Nat, n - j = d := ⟨_, rfl⟩
  rw [hd] at LF
  obtain ⟨y, hy⟩ : ∃ y : Nat, n - 1 = y := ⟨_, rfl⟩
  rw [hy] at LL Fin
  have hid : i + d = y := by have := HJ.out; omega
  have z1 : (y : Int) ≤ (n : Int) := by omega
  have z2 : n - y = 1 := by omega
  have hcy : ¬ cap = y := by omega
  have tail : ∀ w5, w5.heap[g]? = some (.cells (splice cl i (xs.drop j)).toArray 30 (0, 0)) → w.grownBy w5 (some g) → ∃ w6, (Builtin.clear_ #[27] 0 #[.slice (some ⟨g, y, none⟩) 1 (cap - y)]).run Try.prog w5 = .ok (.tuple #[]) w6 ∧ DelR B (.slice (some ⟨g, 0, none⟩) n cap) n xs i w (.returned (.slice (some ⟨g, 0, none⟩) y cap)) w6 := by
    intro w5 h5 hg5
    obtain ⟨w6, hrun, hg6, hb6⟩ := run_clear2 w5 0 (some ⟨g, y, none⟩) 1 (cap - y) g y (splice cl i (xs.drop j)) 30 h5 (fun _ => rfl) (by rw [LL.out.1]; omega)
    refine ⟨w6, hrun, Fin.out w6 ⟨_, hg6, ?_, ?_⟩ (hg5.trans hb6)⟩
    · rw [length_splice _ _ _ (by rw [zs_len, LL.out.1]; omega), LL.out.1]
    · rw [splice_take _ _ _ _ (Nat.le_refl _) (by rw [LL.out.1]; omega), LL.out.2]
  have HT := Lib.hid tail
  clear tail
  by_cases hci1 : cap = j
  · obtain rfl : d = 0 := by omega
    obtain rfl : i = y := by omega
    subst hci1
    clear hd hid hy
    go_region_law (refine step_append_room2 (by rfl) (.tmp 22) (.tmp 25) (by rfl) (some ⟨g, 0, none⟩) i cap 0 0 g (by kernel_rfl) (by kernel_rfl) cl HG.out (xs.drop cap) LF.out (fun hp => by rw [LF.out] at hp; omega) (by omega) (by rw [LF.out, HC.out.1]; omega) H1d.out ?_; intro w5 hg5 hb5; have H5 := Lib.hid (And.intro hg5 hb5); clear hg5 hb5)
    obtain ⟨w6, hrun, h6⟩ := HT.out w5 H5.out.1 (show w.grownBy w5 (some g) from ⟨H5.out.2.os, H5.out.2.tape, H5.out.2.output, H5.out.2.size, H5.out.2.block⟩)
    have H6 := Lib.hid h6
    clear h6
    go_upto_region 7 with (rw [hrun])
    go_wp2_with fail
    go_ret
    exact H6.out
  · have HD := Lib.hid hd
    go_region_law (refine step_append_room2 (by rfl) (.tmp 22) (.tmp 25) (by rfl) (some ⟨g, j, none⟩) i cap d (cap - j) g (by kernel_rfl) (by kernel_rfl) cl HG.out (xs.drop j) LF.out (fun _ => ⟨_, rfl, HS.out⟩) (by have := HD.out; omega) (by rw [LF.out, HC.out.1]; omega) H1d.out ?_; intro w5 hg5 hb5; have H5 := Lib.hid (And.intro hg5 hb5); clear hg5 hb5)
    obtain ⟨w6, hrun, h6⟩ := HT.out w5 H5.out.1 (show w.grownBy w5 (some g) from ⟨H5.out.2.os, H5.out.2.tape, H5.out.2.output, H5.out.2.size, H5.out.2.block⟩)
    have H6 := Lib.hid h6
    clear h6
    go_upto_region 7 with (rw [hrun])
    go_wp2_with fail
    go_ret
    exact H6.out
end Go.Proofs.Ythjcllgjojldjaa.Bg
