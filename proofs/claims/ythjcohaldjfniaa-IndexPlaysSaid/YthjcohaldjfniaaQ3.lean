/- index: slices.Replace of pages, walked at its end. -/
import Derived.Test.YthjcohaldjfniaaQ2
namespace Go.Proofs.Ythjcohaldjfniaa.Ix.Pq
open Go Go.RowKit
theorem insert_any (B : Nat) (v : Value) (L : List Pg) (i : Nat) (so : Option Addr) (m sc : Nat) (ys : List Pg) (w : World) (hown : w.ownsRow B 52 1 v L.length (fq L)) (hi : i ≤ L.length) (hB : B ≤ w.heap.size) (hL : L.length ≤ 100000) (hm : m ≤ 2) (hs : SrcY w v so m ys) :
    Calls Try.prog 41 #[v, .int .i64 i, .slice so m sc] w (RepR w B v (L.take i ++ ys ++ L.drop i)) := by
  by_cases h0 : m = 0
  · subst h0
    obtain rfl : ys = [] := List.eq_nil_of_length_eq_zero hs.1
    refine (insert_none B v L i so sc w hown hi).mono ?_
    rintro e w' ⟨rfl, rfl⟩
    exact ⟨v, rfl, by rw [List.append_nil, List.take_append_drop]; exact hown, ⟨rfl, rfl, rfl, Nat.le_refl _, fun _ _ _ => rfl⟩, fun g h => .inl h⟩
  by_cases he : i = L.length
  · subst he
    rw [List.take_length, List.drop_length, List.append_nil]
    exact insert_end B v L so m sc ys w hown hB hL (by omega) hm hs
  obtain ⟨g, cap, cur, rfl, hBg, _, hg, hc, hn, hcm, ht⟩ := own_block hown (by omega)
  by_cases hr : L.length + m ≤ cap
  · exact insert_room B g cap cur L i so m sc ys w hBg hg hc hcm ht (by omega) hL (by omega) hm hr hs
  · exact insert_grow B g cap L i so m sc ys w hown (by omega) hB hL (by omega) hm (by omega) hs
theorem splice_head (cur ys : List Value) (a : Nat) (h : a ≤ cur.length) : (splice cur a ys).take (a + ys.length) = cur.take a ++ ys := by
  unfold splice
  rw [← List.append_assoc, List.take_append_of_le_length (by simp; omega)]
  exact List.take_of_length_le (by simp; omega)
theorem run_append_room2 (w : World) (ty : TypeId) (sp : Option Addr) (n cap m sc : Nat) (g : Nat) (cur : List Value) (hg : w.heap[g]? = some (.cells cur.toArray 52 (0, 0))) (cs : List Value) (hn : cs.length = m)
    (hpos : 0 < cs.length → ∃ ad, sp = some ad ∧ ∀ j v, cs[j]? = some v → w.cell? (ad.add j) = some v) (hroom : n + m ≤ cap) (hfit : n + cs.length ≤ cur.length) (h1 : ∀ v ∈ cs, v.oneCell' = true) :
    ∃ w', (Builtin.append_ #[50, 50] ty #[.slice (some ⟨g, 0, none⟩) n cap, .slice sp m sc]).run Try.prog w = .ok (.slice (some ⟨g, 0, none⟩) (n + m) cap) w' ∧ w'.heap[g]? = some (.cells (splice cur (n) cs).toArray 52 (0, 0)) ∧ w.grownBy w' (some g) := by
  obtain ⟨i, hi, _, hsz, _⟩ := info_parts info52
  by_cases h0 : cs.length = 0
  · have hm : m = 0 := by omega
    subst hm
    obtain rfl : cs = [] := List.eq_nil_of_length_eq_zero h0
    have hst : (storeCells ⟨g, n, none⟩ [] 0).run Try.prog w = .ok () w := rfl
    refine ⟨w, ?_, by simpa [splice] using hg, ⟨rfl, rfl, rfl, Nat.le_refl _, fun _ _ _ => rfl⟩⟩
    have hr' : n ≤ cap := by omega
    cases sp <;> simp [Builtin.append_, run_underlying Try.underlying50, Builtin.lenOf, Builtin.firstCells, sizeOf, typeInfo, hi, hsz, hr', loadCells, loadCellsFrom, hst, Addr.add_lit]
  · subst hn
    obtain ⟨ad, rfl, hsrc⟩ := hpos (by omega)
    have hl := run_loadCells_list (P := Try.prog) w ad cs hsrc
    have hst := run_storeCells_at Try.prog g (n) 52 cs 0 cur.toArray w hg (by simpa using hfit) h1
    refine ⟨_, ?_, setRow_heap w g cur.toArray ((splice cur (n) cs).toArray) 52 (0, 0) hg, ⟨rfl, rfl, rfl, by simp, fun k _ hk => setRow_other w g k _ (fun e => hk (by rw [e]))⟩⟩
    simp [Builtin.append_, run_underlying Try.underlying50, Builtin.lenOf, Builtin.firstCells, sizeOf, typeInfo, hi, hsz, hroom, hl, hst, splice, Addr.add_lit]
theorem wpList_append_room2 {ops : Array Oper} {rest : List Oper} {o : Oper} {a : Act} {w : World} {Q : Exit → Act → World → Prop} (hgd : o.guard = none) (d s : Operand)
    (ho : o.op = .call { callee := .builtin .append, args := #[d, s], argTypes := #[50, 50] }) (sp : Option Addr) (n cap m sc : Nat) (g : Nat) (hd : a.eval d = .slice (some ⟨g, 0, none⟩) n cap) (hs : a.eval s = .slice sp m sc)
    (cur : List Value) (hg : w.heap[g]? = some (.cells cur.toArray 52 (0, 0))) (cs : List Value) (hn : cs.length = m)
    (hpos : 0 < cs.length → ∃ ad, sp = some ad ∧ ∀ j v, cs[j]? = some v → w.cell? (ad.add j) = some v) (hroom : n + m ≤ cap) (hfit : n + cs.length ≤ cur.length) (h1 : ∀ v ∈ cs, v.oneCell' = true)
    (h : ∀ w', w'.heap[g]? = some (.cells (splice cur (n) cs).toArray 52 (0, 0)) → w.grownBy w' (some g) → wpList Try.prog ops Q rest (a.put o.dst (.slice (some ⟨g, 0, none⟩) (n + m) cap)) w') : wpList Try.prog ops Q (o :: rest) a w := by
  refine wpList_step fun K hK => ?_
  have hw : Region.wanted o (yielded ops a.tmps) = true := by simp [Region.wanted, hgd]
  rw [if_pos hw]
  obtain ⟨w', hrun, h2, h3⟩ := run_append_room2 w o.type sp n cap m sc g cur hg cs hn hpos hroom hfit h1
  unfold Oper.wp
  simp [execOp, ho, resolve, invoke, builtin, hd, hs, hrun, Result.andThen]
  exact hK _ _ (h w' h2 h3)
set_option maxRecDepth 100000 in
theorem replace_same (B : Nat) (v : Value) (L : List Pg) (i : Nat) (so : Option Addr) (m sc : Nat) (ys : List Pg) (w : World) (hown : w.ownsRow B 52 1 v L.length (fq L)) (hi : i ≤ L.length) (hB : B ≤ w.heap.size) (hL : L.length ≤ 100000) (hm : m ≤ 2) (hs : SrcY w v so m ys) :
    Calls Try.prog 36 #[v, .int .i64 i, .int .i64 i, .slice so m sc] w (RepR w B v (L.take i ++ ys ++ L.drop i)) := by
  obtain ⟨M, hM⟩ : ∃ M, M = L.take i ++ ys ++ L.drop i := ⟨_, rfl⟩
  have hI := insert_any B v L i so m sc ys w hown hi hB hL hm hs
  rw [← hM] at hI ⊢
  obtain ⟨ao, cap, rfl, hnc, hno, _⟩ := own_slice hown
  have i1 : (i : Int) ≤ (cap : Int) := by omega
  clear hown hs hno hM
  by_cases hci : cap = i
  · subst hci
    have HI := Lib.hid hI
    clear hI
    go_enter Try.func36, Try.ntmps36
    go_wp2_with fail
    refine HI.out.mono ?_
    rintro e w' ⟨v', rfl, h⟩
    have H := Lib.hid h
    clear h
    go_wp2_with fail
    go_ret
    exact ⟨v', rfl, H.out⟩
  · have HI := Lib.hid hI
    clear hI
    go_enter Try.func36, Try.ntmps36
    go_wp2_with fail
    refine HI.out.mono ?_
    rintro e w' ⟨v', rfl, h⟩
    have H := Lib.hid h
    clear h
    go_wp2_with fail
    go_ret
    exact ⟨v', rfl, H.out⟩
set_option maxRecDepth 100000 in
set_option maxHeartbeats 1000000 in
theorem replace_end (B g cap : Nat) (cur : List Value) (L : List Pg) (i : Nat) (so : Option Addr) (m sc : Nat) (ys : List Pg) (w : World) (hBg : B ≤ g) (hg : w.heap[g]? = some (.cells cur.toArray 52 (0, 0))) (hc : cur.length = cap) (hcm : cap ≤ maxLen) (ht : cur.take (L.length) = fq L) (hi : i < L.length) (hcap : L.length ≤ cap) (_hL : L.length ≤ 100000) (_hm : m ≤ 2) (hroom : i + m ≤ cap) (hs : SrcY w (.slice (some ⟨g, 0, none⟩) L.length cap) so m ys) :
    Calls Try.prog 36 #[.slice (some ⟨g, 0, none⟩) L.length cap, .int .i64 i, .int .i64 L.length, .slice so m sc] w (RepR w B (.slice (some ⟨g, 0, none⟩) L.length cap) (L.take i ++ ys)) := by
  have HY := Lib.hid hs.1
  have HN := Lib.hid (show 0 < (fq ys).length → ∃ ad, so = some ad ∧ ∀ j u, (fq ys)[j]? = some u → w.cell? (ad.add j) = some u from fun hp => by
    rw [fq_len, hs.1] at hp
    obtain ⟨b, rfl, hb1, hb2, _, hb4⟩ := hs.cells (by omega)
    exact ⟨_, rfl, fun j u hu => by
      rw [Go.WideShapes.add_plain, Nat.zero_add]
      exact hb4 w ⟨rfl, rfl, rfl, Nat.le_refl _, fun _ _ _ => rfl⟩ j u hu⟩)
  have in0 : ((i : Int) == (L.length : Int)) = false := by simp; omega
  obtain ⟨im, him⟩ : ∃ im : Nat, i + m = im := ⟨_, rfl⟩
  have q1 : (i : Int) ≤ (L.length : Int) := by omega
  have q2 : (L.length : Int) ≤ (cap : Int) := by omega
  have q3 : (im : Int) ≤ (cap : Int) := by omega
  have iim : (i : Int) + (m : Int) = (im : Int) := by omega
  have HG := Lib.hid hg
  have HC := Lib.hid (And.intro hc (And.intro hcm ht))
  have hci : ¬ cap = i := by omega
  have fin : ∀ w', (∃ cur', w'.heap[g]? = some (.cells (List.toArray cur') 52 (0, 0)) ∧ cur'.length = cap ∧ cur'.take (im) = fq (L.take i ++ ys)) → w.grownBy w' (some g) → RepR w B (.slice (some ⟨g, 0, none⟩) L.length cap) (L.take i ++ ys) (.returned (.slice (some ⟨g, 0, none⟩) im cap)) w' := fun w' ⟨cur', h1, h2, h3⟩ h4 => by
    have e1 : (L.take i ++ ys).length = im := by simp only [List.length_append, List.length_take, hs.1]; omega
    exact ⟨_, rfl, by rw [e1]; exact own_mk hBg h1 h2 (by omega) hcm h3, h4, fun g' e => .inl e⟩
  have Fin := Lib.hid fin
  clear hs hg hc hcm ht fin
  go_enter Try.func36, Try.ntmps36
  go_upto_region 5 with fail
  apply wp_region_lit
  go_upto_region 6 with (refine wpList_append_room2 rfl (.tmp 32) (.tmp 33) rfl so i cap m sc g rfl rfl cur ?_ (fq ys) ?_ ?_ ?_ ?_ (fq_one ys) ?_)
  case refine_1 => exact HG.out
  case refine_2 => rw [fq_len, HY.out]
  case refine_3 => exact HN.out
  case refine_4 => exact hroom
  case refine_5 => rw [fq_len, HY.out, HC.out.1]; omega
  case refine_6 =>
    intro w1 hg1 hb1
    have H1 := Lib.hid (And.intro hg1 hb1)
    clear hg1 hb1
    have l1 : (splice cur (i) (fq ys)).length = cap := by rw [length_splice _ _ _ (by rw [fq_len, HY.out, HC.out.1]; omega), HC.out.1]
    have t1 : (splice cur (i) (fq ys)).take (im) = fq (L.take i ++ ys) := by
      have h := splice_head cur (fq ys) (i) (by rw [HC.out.1]; omega)
      rw [fq_len, HY.out, show i + m = im by omega] at h
      rw [h, fq_app, fq_take, ← HC.out.2.2, List.take_take, Nat.min_eq_left (by omega)]
    have H5 := Lib.hid (And.intro l1 t1)
    clear l1 t1
    by_cases hlt : im < L.length
    · have q4 : (im : Int) < (L.length : Int) := by omega
      have q5 : (im : Int) ≤ (L.length : Int) := by omega
      have hcim : ¬ cap = im := by omega
      go_upto_region 7 with fail
      apply wp_region_lit
      go_upto_region 8 with fail
      obtain ⟨w2, hrun, hg2, hb2⟩ := run_clear2 w1 0 (some ⟨g, im, none⟩) (L.length - im) (cap - im) g (im) (splice cur (i) (fq ys)) 52 H1.out.1 (fun _ => rfl) (by rw [H5.out.1]; omega)
      rw [hrun]
      have H2 := Lib.hid (And.intro hg2 hb2)
      clear hg2 hb2 hrun
      go_wp2_with fail
      go_ret
      refine Fin.out w2 ⟨_, H2.out.1, ?_, ?_⟩ (H1.out.2.trans H2.out.2)
      · rw [length_splice _ _ _ (by rw [zs_len, H5.out.1]; omega), H5.out.1]
      · rw [splice_take _ _ _ _ (Nat.le_refl _) (by rw [H5.out.1]; omega), H5.out.2]
    · have q4 : ¬ (im : Int) < (L.length : Int) := by omega
      go_wp2_with fail
      go_ret
      exact Fin.out w1 ⟨_, H1.out.1, H5.out.1, H5.out.2⟩ H1.out.2
end Go.Proofs.Ythjcohaldjfniaa.Ix.Pq
