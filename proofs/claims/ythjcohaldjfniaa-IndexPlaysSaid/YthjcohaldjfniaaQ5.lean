/- index: slices.Replace of pages, walked whole. -/
import Derived.Test.YthjcohaldjfniaaQ4
namespace Go.Proofs.Ythjcohaldjfniaa.Ix.Pq
open Go Go.RowKit
set_option maxRecDepth 100000 in
set_option maxHeartbeats 1000000 in
theorem replace_over (B g cap : Nat) (cur : List Value) (L : List Pg) (i k : Nat) (so : Option Addr) (m sc : Nat) (ys : List Pg) (w : World) (hBg : B ≤ g) (hg : w.heap[g]? = some (.cells cur.toArray 52 (0, 0))) (hc : cur.length = cap) (hcm : cap ≤ maxLen) (ht : cur.take (L.length) = fq L) (hi : i < k) (hk : k < L.length) (hcap : L.length ≤ cap) (hL : L.length ≤ 100000) (hm : m ≤ 2) (hover : k < i + m) (hroom : i + m + (L.length - k) ≤ cap) (hs : SrcY w (.slice (some ⟨g, 0, none⟩) L.length cap) so m ys) :
    Calls Try.prog 36 #[.slice (some ⟨g, 0, none⟩) L.length cap, .int .i64 i, .int .i64 k, .slice so m sc] w (RepR w B (.slice (some ⟨g, 0, none⟩) L.length cap) (L.take i ++ ys ++ L.drop k)) := by
  obtain ⟨b, rfl, hb1, hb2, ⟨src, hb3, hb5⟩, hb4⟩ := hs.cells (by omega)
  have HY := Lib.hid hs.1
  have HN := Lib.hid hb4
  have hb1' : g ≠ b := fun e => hb1 (by rw [e]; rfl)
  have in0 : ((i : Int) == (k : Int)) = false := by simp; omega
  have in1 : ((k : Int) == (L.length : Int)) = false := by simp; omega
  obtain ⟨im, him⟩ : ∃ im : Nat, i + m = im := ⟨_, rfl⟩
  obtain ⟨d, hd⟩ : ∃ d : Nat, L.length - k = d := ⟨_, rfl⟩
  obtain ⟨tt, htt⟩ : ∃ tt : Nat, im + d = tt := ⟨_, rfl⟩
  have q1 : (i : Int) ≤ (k : Int) := by omega
  have q2 : (L.length : Int) ≤ (cap : Int) := by omega
  have q3 : (k : Int) ≤ (cap : Int) := by omega
  have q4 : (k : Int) ≤ (L.length : Int) := by omega
  have q5 : (tt : Int) ≤ (cap : Int) := by omega
  have q6 : ¬ (im : Int) ≤ (k : Int) := by omega
  have q7 : (i : Int) ≤ (tt : Int) := by omega
  have q8 : (im : Int) ≤ (tt : Int) := by omega
  have q10 : (i : Int) ≤ (cap : Int) := by omega
  have iim : (i : Int) + (m : Int) = (im : Int) := by omega
  have itt' : (im : Int) + (d : Int) = (tt : Int) := by omega
  have idd : (L.length : Int) - (k : Int) = (d : Int) := by omega
  have w1 : IntKind.i64.wrap (im : Int) = (im : Int) := by simp [IntKind.wrap, IntKind.bits, IntKind.signed]; omega
  have w2 : IntKind.i64.wrap (tt : Int) = (tt : Int) := by simp [IntKind.wrap, IntKind.bits, IntKind.signed]; omega
  have hgt : ¬ (cap : Int) < (tt : Int) := by omega
  have HG := Lib.hid hg
  have HC := Lib.hid (And.intro hc (And.intro hcm ht))
  have hci : ¬ cap = i := by omega
  have hck : ¬ cap = k := by omega
  have hcim : ¬ cap = im := by omega
  have e1 : (L.take i ++ ys ++ L.drop k).length = tt := by simp only [List.length_append, List.length_take, List.length_drop, hs.1]; omega
  have fin : ∀ w', (∃ cur', w'.heap[g]? = some (.cells (List.toArray cur') 52 (0, 0)) ∧ cur'.length = cap ∧ cur'.take (tt) = fq (L.take i ++ ys ++ L.drop k)) → w.grownBy w' (some g) → RepR w B (.slice (some ⟨g, 0, none⟩) L.length cap) (L.take i ++ ys ++ L.drop k) (.returned (.slice (some ⟨g, 0, none⟩) tt cap)) w' := fun w' ⟨cur', h1, h2, h3⟩ h4 => by
    exact ⟨_, rfl, by rw [e1]; exact own_mk hBg h1 h2 (by omega) hcm h3, h4, fun g' e => .inl e⟩
  have Fin := Lib.hid fin
  have hov : ∀ nq lb cb, (callFunc 42 #[.slice (some ⟨g, im, none⟩) lb cb, .slice (some ⟨b, 0, none⟩) m sc]).run Try.prog (w.drewN nq) = .ok (.value (.bool false)) (w.drewN nq) := fun nq lb cb =>
    overlaps_no (w.drewN nq) ⟨g, im, none⟩ ⟨b, 0, none⟩ rfl hb1' hg hb3 hb5 lb cb m sc
  generalize hM : L.take i ++ ys ++ L.drop k = M at Fin ⊢
  have HM := Lib.hid hM
  have HS := Lib.hid (show ∀ j u, (fq (L.drop k))[j]? = some u → w.cell? ((⟨g, k, none⟩ : Addr).add j) = some u from fun j u hu => by
    rw [Go.WideShapes.add_plain, show w.cell? ⟨g, k + j, none⟩ = cur[k + j]? from by simp [World.cell?, hg]]
    rw [fq_drop, List.getElem?_drop, ← ht] at hu
    rw [List.getElem?_take] at hu
    split at hu
    · exact hu
    · cases hu)
  clear hs hg hc hcm ht fin e1 hM hb1 hb3 hb4 hb5
  go_enter Try.func36, Try.ntmps36
  go_wp2_with fail
  go_quiet (fail)
  go_upto_region 22 with (simp only [hov])
  go_region_law (refine step_copy2 (by rfl) (.tmp 126) (.tmp 129) (by rfl) (some ⟨g, im, none⟩) (some ⟨g, k, none⟩) (tt - im) (cap - im) d (cap - k) (by kernel_rfl) (by kernel_rfl) g (im) cur 52 HG.out (fq (L.drop k)) (by rw [fq_len, List.length_drop]; have : Nat.min d (tt - im) = d := Nat.min_eq_left (by omega); omega) (fun _ => ⟨rfl, _, rfl, fun j u hu => HS.out j u hu⟩) (by rw [fq_len, List.length_drop, HC.out.1]; omega) (fq_one _) ?_; intro w5 hg5 hb5; have H5 := Lib.hid (And.intro hg5 hb5); clear hg5 hb5)
  all_goals
    have l1 : (splice cur (im) (fq (L.drop k))).length = cap := by rw [length_splice _ _ _ (by rw [fq_len, List.length_drop, HC.out.1]; omega), HC.out.1]
    have L1 := Lib.hid l1
    clear l1
    go_upto_region 23 with fail
    apply wp_region_lit
    go_upto_region 24 with (refine wpList_copy2 rfl (.tmp 133) (.tmp 134) rfl _ _ _ _ _ _ rfl rfl g (i) (splice cur (im) (fq (L.drop k))) 52 ?_ (fq ys) ?_ ?_ ?_ (fq_one ys) ?_)
    case refine_1 => exact H5.out.1
    case refine_2 => rw [fq_len, HY.out]; have : Nat.min m (tt - i) = m := Nat.min_eq_left (by omega); omega
    case refine_3 => exact fun _ j u hu => HN.out w5 ⟨H5.out.2.os, H5.out.2.tape, H5.out.2.output, H5.out.2.size, fun k hk hne => H5.out.2.block k hk (fun e => hne (by rw [e]; rfl))⟩ j u hu
    case refine_4 => rw [fq_len, HY.out, L1.out]; omega
    case refine_5 =>
      intro w6 hg6 hb6
      have H6 := Lib.hid (And.intro hg6 hb6)
      clear hg6 hb6
      go_wp2_with fail
      go_ret
      refine Fin.out w6 ⟨_, H6.out.1, ?_, ?_⟩ ((show w.grownBy w5 (some g) from ⟨H5.out.2.os, H5.out.2.tape, H5.out.2.output, H5.out.2.size, H5.out.2.block⟩).trans H6.out.2)
      · rw [length_splice _ _ _ (by rw [fq_len, HY.out, L1.out]; omega), L1.out]
      · have ht := (splice_two cur (fq ys) (fq (L.drop k)) (i) (im) (by rw [fq_len, HY.out]; omega) (by rw [fq_len, List.length_drop, HC.out.1]; omega)).2
        rw [fq_len, List.length_drop, show im + (L.length - k) = tt by omega] at ht
        rw [ht, ← HM.out, fq_app, fq_app, fq_take, ← HC.out.2.2, List.take_take, Nat.min_eq_left (by omega)]
set_option maxRecDepth 100000 in
set_option maxHeartbeats 1000000 in
theorem replace_grow (B g cap : Nat) (L : List Pg) (i k : Nat) (so : Option Addr) (m sc : Nat) (ys : List Pg) (w : World) (hown : w.ownsRow B 52 1 (.slice (some ⟨g, 0, none⟩) L.length cap) L.length (fq L)) (hi : i < k) (hk : k < L.length) (hB : B ≤ w.heap.size) (hL : L.length ≤ 100000) (h0 : 0 < m) (hm : m ≤ 2) (hgrow : cap < i + m + (L.length - k)) (hs : SrcY w (.slice (some ⟨g, 0, none⟩) L.length cap) so m ys) :
    Calls Try.prog 36 #[.slice (some ⟨g, 0, none⟩) L.length cap, .int .i64 i, .int .i64 k, .slice so m sc] w (RepR w B (.slice (some ⟨g, 0, none⟩) L.length cap) (L.take i ++ ys ++ L.drop k)) := by
  obtain ⟨b, rfl, hb1, hb2, _, hb4⟩ := hs.cells h0
  obtain ⟨ao', cap', e, hnc, _, hcells⟩ := own_slice hown
  obtain ⟨g', e', hcells⟩ := hcells (by omega)
  have : g' = g ∧ cap' = cap := by
    simp only [Value.slice.injEq] at e
    rw [e'] at e
    simp at e
    omega
  obtain ⟨rfl, rfl⟩ := this
  clear e e'
  have HY := Lib.hid hs.1
  have HN := Lib.hid hb4
  have HC := Lib.hid hcells
  have hgw := Lib.hid (World.ownsRow.lt hown g' rfl)
  have hb1' : b ≠ g' := fun e => hb1 (by rw [e]; rfl)
  have in0 : ((i : Int) == (k : Int)) = false := by simp; omega
  have in1 : ((k : Int) == (L.length : Int)) = false := by simp; omega
  have hci : ¬ cap' = i := by omega
  have hck : ¬ cap' = k := by omega
  obtain ⟨im, him⟩ : ∃ im : Nat, i + m = im := ⟨_, rfl⟩
  obtain ⟨d, hd⟩ : ∃ d : Nat, L.length - k = d := ⟨_, rfl⟩
  obtain ⟨nm, hnm⟩ : ∃ nm : Nat, im + d = nm := ⟨_, rfl⟩
  obtain ⟨q, hq⟩ : ∃ q : Nat, i + q = nm := ⟨nm - i, by omega⟩
  have q1 : (i : Int) ≤ (k : Int) := by omega
  have q2 : (L.length : Int) ≤ (cap' : Int) := by omega
  have q3 : (k : Int) ≤ (cap' : Int) := by omega
  have q4 : (k : Int) ≤ (L.length : Int) := by omega
  have q10 : (i : Int) ≤ (cap' : Int) := by omega
  have iim : (i : Int) + (m : Int) = (im : Int) := by omega
  have itt' : (im : Int) + (d : Int) = (nm : Int) := by omega
  have idd : (L.length : Int) - (k : Int) = (d : Int) := by omega
  have ik : (nm : Int) - (i : Int) = (q : Int) := by omega
  have w1 : IntKind.i64.wrap (nm : Int) = (nm : Int) := by simp [IntKind.wrap, IntKind.bits, IntKind.signed]; omega
  have w2 : IntKind.i64.wrap (q : Int) = (q : Int) := by simp [IntKind.wrap, IntKind.bits, IntKind.signed]; omega
  have w3 : IntKind.i64.wrap (im : Int) = (im : Int) := by simp [IntKind.wrap, IntKind.bits, IntKind.signed]; omega
  have hgt : (cap' : Int) < (nm : Int) := by omega
  have HP := Lib.hid (show (∀ j u, (fq (L.take i))[j]? = some u → w.cell? ⟨g', j, none⟩ = some u) ∧ (fq (L.take i)).length = i from ⟨fun j u hu => hcells j u (by
    rw [fq_take, List.getElem?_take] at hu
    split at hu
    · exact hu
    · cases hu), by rw [fq_len, List.length_take]; omega⟩)
  generalize hM : L.take i ++ ys ++ L.drop k = M
  have HM := Lib.hid hM
  clear hown hb1 hb4 hs hcells hM
  go_enter Try.func36, Try.ntmps36
  go_wp2_with fail
  go_quiet (fail)
  go_upto_region 11 with fail
  apply wp_region_lit
  go_upto_region 12 with (refine wpList_append_made2 rfl (.tmp 63) (.tmp 66) rfl g' i cap' q (fq (L.take i)) rfl rfl ?_ ?_ ?_ ?_ ?_ ?_ ?_)
  case refine_1 => exact HP.out.1
  case refine_2 => exact HP.out.2
  case refine_3 => omega
  case refine_4 => omega
  case refine_5 => omega
  case refine_6 => omega
  case refine_7 =>
    intro c2 w2 cur hg2 hl2 hn2 hm2 ht2 hb2
    have hn2' : nm ≤ c2 := by omega
    have hc2 : ¬ c2 = i := by omega
    have hc3 : ¬ c2 = im := by omega
    have hb2 : w.grownBy w2 none := grown_drew hb2
    have H2 := Lib.hid (And.intro hg2 (And.intro hl2 (And.intro hm2 (And.intro ht2 hb2))))
    have q21 : (i : Int) ≤ (nm : Int) := by omega
    have q22 : (im : Int) ≤ (nm : Int) := by omega
    clear hg2 hl2 hm2 ht2 hb2 hn2
    go_upto_region 12 with fail
    apply wp_region_lit
    go_upto_region 13 with (refine wpList_copy2 rfl (.tmp 70) (.tmp 71) rfl _ _ _ _ _ _ rfl rfl w.heap.size (i) cur 52 ?_ (fq ys) ?_ ?_ ?_ (fq_one ys) ?_)
    case refine_1 => exact H2.out.1
    case refine_2 => rw [fq_len, HY.out]; have : Nat.min m (nm - i) = m := Nat.min_eq_left (by omega); omega
    case refine_3 => exact fun _ j u hu => HN.out w2 ⟨H2.out.2.2.2.2.os, H2.out.2.2.2.2.tape, H2.out.2.2.2.2.output, H2.out.2.2.2.2.size, fun k hk _ => H2.out.2.2.2.2.block k hk (by simp)⟩ j u hu
    case refine_4 => rw [fq_len, HY.out, H2.out.2.1]; omega
    case refine_5 =>
      intro w4 hg4 hb4
      have HS := Lib.hid (show ∀ j u, (fq (L.drop k))[j]? = some u → w4.cell? ((⟨g', k, none⟩ : Addr).add j) = some u from fun j u hu => by
        rw [Go.WideShapes.add_plain]
        rw [fq_drop, List.getElem?_drop] at hu
        have h1 := HC.out _ u hu
        have h2 := (H2.out.2.2.2.2.cell_far ⟨g', k + j, none⟩ hgw.out.2 (by simp)).trans h1
        exact (hb4.cell_far ⟨g', k + j, none⟩ (Nat.lt_of_lt_of_le hgw.out.2 H2.out.2.2.2.2.size) (by have := hgw.out; simp; omega)).trans h2)
      have H4 := Lib.hid (And.intro hg4 hb4)
      clear hg4 hb4
      go_upto_region 13 with fail
      go_region_law (refine step_copy2 (by rfl) (.tmp 78) (.tmp 81) (by rfl) (some ⟨w.heap.size, im, none⟩) (some ⟨g', k, none⟩) (nm - im) (c2 - im) d (cap' - k) (by kernel_rfl) (by kernel_rfl) w.heap.size (im) (splice cur (i) (fq ys)) 52 H4.out.1 (fq (L.drop k)) (by rw [fq_len, List.length_drop]; have : Nat.min d (nm - im) = d := Nat.min_eq_left (by omega); omega) (fun _ => ⟨rfl, _, rfl, fun j u hu => HS.out j u hu⟩) (by rw [fq_len, List.length_drop, length_splice _ _ _ (by rw [fq_len, HY.out, H2.out.2.1]; omega), H2.out.2.1]; omega) (fq_one _) ?_; intro w5 hg5 hb5; have H5 := Lib.hid (And.intro hg5 hb5); clear hg5 hb5)
      all_goals
        go_wp2_with fail
        go_ret
        have hB1 := H2.out.2.2.2.2
        have hB2 := H4.out.2
        have hB3 := H5.out.2
        have sz := hB1.size
        have sz2 := hB2.size
        refine ⟨_, rfl, ?_, ⟨?_, ?_, ?_, ?_, fun j hj _ => ?_⟩, fun g e => .inr ?_⟩
        · have e1 : M.length = nm := by rw [← HM.out]; simp only [List.length_append, List.length_take, List.length_drop, HY.out]; omega
          rw [e1]
          refine own_mk hB H5.out.1 ?_ hn2' H2.out.2.2.1 ?_
          · rw [length_splice _ _ _ (by rw [fq_len, List.length_drop, length_splice _ _ _ (by rw [fq_len, HY.out, H2.out.2.1]; omega), H2.out.2.1]; omega), length_splice _ _ _ (by rw [fq_len, HY.out, H2.out.2.1]; omega), H2.out.2.1]
          · have ht := (splice_two cur (fq ys) (fq (L.drop k)) (i) (im) (by rw [fq_len, HY.out]; omega) (by rw [fq_len, List.length_drop, H2.out.2.1]; omega)).1
            rw [fq_len, List.length_drop, show im + (L.length - k) = nm by omega, H2.out.2.2.2.1] at ht
            rw [ht, ← HM.out, fq_app, fq_app]
        · exact (hB3.os.trans hB2.os).trans hB1.os
        · exact (hB3.tape.trans hB2.tape).trans hB1.tape
        · exact (hB3.output.trans hB2.output).trans hB1.output
        · exact Nat.le_trans sz (Nat.le_trans sz2 hB3.size)
        · exact (hB3.block j (by show j < w4.heap.size; omega) (by simp; omega)).trans ((hB2.block j (by omega) (by simp; omega)).trans (hB1.block j hj (by simp)))
        · have e' : w.heap.size = g := by simpa [Value.ownBlock] using e
          omega
theorem replace_any (B : Nat) (v : Value) (L : List Pg) (i k : Nat) (so : Option Addr) (m sc : Nat) (ys : List Pg) (w : World) (hown : w.ownsRow B 52 1 v L.length (fq L)) (hik : i ≤ k) (hk : k ≤ L.length) (hB : B ≤ w.heap.size) (hL : L.length ≤ 100000) (hm : m ≤ 2) (hs : SrcY w v so m ys) :
    Calls Try.prog 36 #[v, .int .i64 i, .int .i64 k, .slice so m sc] w (RepR w B v (L.take i ++ ys ++ L.drop k)) := by
  by_cases he : i = k
  · subst he
    exact replace_same B v L i so m sc ys w hown hk hB hL hm hs
  obtain ⟨g, cap, cur, rfl, hBg, _, hg, hc, hn, hcm, ht⟩ := own_block hown (by omega)
  by_cases hkl : k = L.length
  · subst hkl
    rw [List.drop_length, List.append_nil]
    by_cases hr : i + m ≤ cap
    · exact replace_end B g cap cur L i so m sc ys w hBg hg hc hcm ht (by omega) hn hL hm hr hs
    · exact replace_end2 B g cap L i so m sc ys w hown (by omega) hn hB hL hm (by omega) hs
  · by_cases hr : i + m ≤ k
    · exact replace_fit B g cap cur L i k so m sc ys w hBg hg hc hcm ht (by omega) (by omega) hn hL hm hr hs
    · by_cases hr2 : i + m + (L.length - k) ≤ cap
      · exact replace_over B g cap cur L i k so m sc ys w hBg hg hc hcm ht (by omega) (by omega) hn hL hm (by omega) hr2 hs
      · exact replace_grow B g cap L i k so m sc ys w hown (by omega) (by omega) hB hL (by omega) hm (by omega) hs
end Go.Proofs.Ythjcohaldjfniaa.Ix.Pq
