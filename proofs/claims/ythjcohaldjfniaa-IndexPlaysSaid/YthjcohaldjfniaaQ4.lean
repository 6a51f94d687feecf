/- index: slices.Replace of pages, where it fits. -/
import Derived.Test.YthjcohaldjfniaaQ3
namespace Go.Proofs.Ythjcohaldjfniaa.Ix.Pq
open Go Go.RowKit
theorem grown_drew {w w' : World} {n : Nat} {row : Option Nat} (h : (w.drewN n).grownBy w' row) : w.grownBy w' row := ⟨h.os, h.tape, h.output, h.size, h.block⟩
set_option maxRecDepth 100000 in
set_option maxHeartbeats 1000000 in
theorem replace_end2 (B g cap : Nat) (L : List Pg) (i : Nat) (so : Option Addr) (m sc : Nat) (ys : List Pg) (w : World) (hown : w.ownsRow B 52 1 (.slice (some ⟨g, 0, none⟩) L.length cap) L.length (fq L)) (hi : i < L.length) (hcap : L.length ≤ cap) (hB : B ≤ w.heap.size) (hL : L.length ≤ 100000) (hm : m ≤ 2) (hgrow : cap < i + m) (hs : SrcY w (.slice (some ⟨g, 0, none⟩) L.length cap) so m ys) :
    Calls Try.prog 36 #[.slice (some ⟨g, 0, none⟩) L.length cap, .int .i64 i, .int .i64 L.length, .slice so m sc] w (RepR w B (.slice (some ⟨g, 0, none⟩) L.length cap) (L.take i ++ ys)) := by
  obtain ⟨b, rfl, hb1, hb2, _, hb4⟩ := hs.cells (by omega)
  obtain ⟨i0, hi0, hz0, hz1, hz2⟩ := info_parts info52
  have HN := Lib.hid (show ∀ j u, (fq ys)[j]? = some u → w.cell? ((⟨b, 0, none⟩ : Addr).add j) = some u from fun j u hu => by
    rw [Go.WideShapes.add_plain, Nat.zero_add]
    exact hb4 w ⟨rfl, rfl, rfl, Nat.le_refl _, fun _ _ _ => rfl⟩ j u hu)
  have HY := Lib.hid hs.1
  have HO := Lib.hid (show w.ownsRow B 52 1 (.slice (some ⟨g, 0, none⟩) i cap) i (fq (L.take i)) from by
    obtain ⟨g', cap', cur, e, hBg, _, hg, hc, hn, hcm, ht⟩ := own_block hown (by omega)
    simp only [Value.slice.injEq, Option.some.injEq, Addr.mk.injEq, true_and, and_true] at e
    obtain ⟨rfl, rfl⟩ := e
    exact own_mk hBg hg hc (by omega) hcm (by rw [fq_take, ← ht, List.take_take, Nat.min_eq_left (by omega)]))
  have in0 : ((i : Int) == (L.length : Int)) = false := by simp; omega
  obtain ⟨im, him⟩ : ∃ im : Nat, i + m = im := ⟨_, rfl⟩
  have q1 : (i : Int) ≤ (L.length : Int) := by omega
  have q2 : (L.length : Int) ≤ (cap : Int) := by omega
  have hci : ¬ cap = i := by omega
  have q4 : ¬ (im : Int) < (L.length : Int) := by omega
  have e1 : (L.take i ++ ys).length = im := by simp only [List.length_append, List.length_take, hs.1]; omega
  have E1 := Lib.hid e1
  clear hs hown hb1 hb2 hb4 e1
  go_enter Try.func36, Try.ntmps36
  go_wp2_with (at_builtin; refine wpList_append_lies _ rfl (.tmp 32) (.tmp 33) 50 rfl B 52 i0 _ 1 24 Try.underlying50 hi0 hz0 hz1 hz2 rfl (by decide) _ i (fq (L.take i)) rfl HO.out ⟨b, 0, none⟩ m sc (fq ys) rfl (by rw [fq_len, HY.out, Nat.mul_one]) HN.out (fq_one ys) (by omega) (by unfold maxLen; omega) (by omega) hB _ rfl ?_; intro g3 c3 w3 hown3 hgrow3 hat3 _; rw [him] at hown3 ⊢; have H3 := Lib.hid (And.intro hown3 (And.intro hgrow3 hat3)); clear hown3 hgrow3 hat3)
  go_ret
  obtain ⟨a1, a2, a3⟩ := H3.out
  refine ⟨_, rfl, ?_, a2, fun g e => ?_⟩
  · rw [E1.out, fq_app]; exact a1
  · have e' : g3 = g := by simpa [Value.ownBlock] using e
    subst e'
    exact a3.imp id (fun h => by omega)
set_option maxRecDepth 100000 in
set_option maxHeartbeats 1000000 in
theorem replace_fit (B g cap : Nat) (cur : List Value) (L : List Pg) (i k : Nat) (so : Option Addr) (m sc : Nat) (ys : List Pg) (w : World) (hBg : B ≤ g) (hg : w.heap[g]? = some (.cells cur.toArray 52 (0, 0))) (hc : cur.length = cap) (hcm : cap ≤ maxLen) (ht : cur.take (L.length) = fq L) (hi : i < k) (hk : k < L.length) (hcap : L.length ≤ cap) (hL : L.length ≤ 100000) (hm : m ≤ 2) (hroom : i + m ≤ k) (hs : SrcY w (.slice (some ⟨g, 0, none⟩) L.length cap) so m ys) :
    Calls Try.prog 36 #[.slice (some ⟨g, 0, none⟩) L.length cap, .int .i64 i, .int .i64 k, .slice so m sc] w (RepR w B (.slice (some ⟨g, 0, none⟩) L.length cap) (L.take i ++ ys ++ L.drop k)) := by
  have HY := Lib.hid hs.1
  have HN := Lib.hid (show 0 < (fq ys).length → ∃ ad, so = some ad ∧ ∀ j u, (fq ys)[j]? = some u → w.cell? (ad.add j) = some u from fun hp => by
    rw [fq_len, hs.1] at hp
    obtain ⟨b, rfl, hb1, hb2, _, hb4⟩ := hs.cells (by omega)
    exact ⟨_, rfl, fun j u hu => by
      rw [Go.WideShapes.add_plain, Nat.zero_add]
      exact hb4 w ⟨rfl, rfl, rfl, Nat.le_refl _, fun _ _ _ => rfl⟩ j u hu⟩)
  have in0 : ((i : Int) == (k : Int)) = false := by simp; omega
  have in1 : ((k : Int) == (L.length : Int)) = false := by simp; omega
  obtain ⟨im, him⟩ : ∃ im : Nat, i + m = im := ⟨_, rfl⟩
  obtain ⟨d, hd⟩ : ∃ d : Nat, L.length - k = d := ⟨_, rfl⟩
  obtain ⟨tt, htt⟩ : ∃ tt : Nat, im + d = tt := ⟨_, rfl⟩
  have q1 : (i : Int) ≤ (k : Int) := by omega
  have q2 : (L.length : Int) ≤ (cap : Int) := by omega
  have q3 : (k : Int) ≤ (cap : Int) := by omega
  have q4 : (k : Int) ≤ (L.length : Int) := by omega
  have q5 : (tt : Int) ≤ (cap : Int) := by omega
  have q6 : (im : Int) ≤ (k : Int) := by omega
  have q7 : (i : Int) ≤ (tt : Int) := by omega
  have q8 : (im : Int) ≤ (tt : Int) := by omega
  have q9 : (tt : Int) ≤ (L.length : Int) := by omega
  have q10 : (i : Int) ≤ (cap : Int) := by omega
  have iim : (i : Int) + (m : Int) = (im : Int) := by omega
  have itt : (im : Int) + (L.length - k : Nat) = (tt : Int) := by omega
  have itt' : (im : Int) + (d : Int) = (tt : Int) := by omega
  have idd : (L.length : Int) - (k : Int) = (d : Int) := by omega
  have w1 : IntKind.i64.wrap (im : Int) = (im : Int) := by simp [IntKind.wrap, IntKind.bits, IntKind.signed]; omega
  have w2 : IntKind.i64.wrap (tt : Int) = (tt : Int) := by simp [IntKind.wrap, IntKind.bits, IntKind.signed]; omega
  have hgt : ¬ (cap : Int) < (tt : Int) := by omega
  have HG := Lib.hid hg
  have HC := Lib.hid (And.intro hc (And.intro hcm ht))
  have hci : ¬ cap = i := by omega
  have hck : ¬ cap = k := by omega
  have hcim : ¬ cap = im := by omega
  have e1 : (L.take i ++ ys ++ L.drop k).length = tt := by simp only [List.length_append, List.length_take, List.length_drop, hs.1]; omega
  have fin : ∀ w', (∃ cur', w'.heap[g]? = some (.cells (List.toArray cur') 52 (0, 0)) ∧ cur'.length = cap ∧ cur'.take (tt) = fq (L.take i ++ ys ++ L.drop k)) → w.grownBy w' (some g) → RepR w B (.slice (some ⟨g, 0, none⟩) L.length cap) (L.take i ++ ys ++ L.drop k) (.returned (.slice (some ⟨g, 0, none⟩) tt cap)) w' := fun w' ⟨cur', h1, h2, h3⟩ h4 => by
    exact ⟨_, rfl, by rw [e1]; exact own_mk hBg h1 h2 (by omega) hcm h3, h4, fun g' e => .inl e⟩
  have Fin := Lib.hid fin
  generalize hM : L.take i ++ ys ++ L.drop k = M at Fin ⊢
  have HM := Lib.hid hM
  clear hs hg hc hcm ht fin e1 hM
  go_enter Try.func36, Try.ntmps36
  go_wp2_with fail
  go_quiet (fail)
  go_upto_region 17 with fail
  apply wp_region_lit
  go_upto_region 18 with (refine wpList_copy2 rfl (.tmp 95) (.tmp 96) rfl (some ⟨g, i, none⟩) so (tt - i) (cap - i) m sc (by kernel_rfl) (by kernel_rfl) g (i) cur 52 ?_ (fq ys) ?_ ?_ ?_ (fq_one ys) ?_)
  case refine_1 => exact HG.out
  case refine_2 => rw [fq_len, HY.out]; have : Nat.min m (tt - i) = m := Nat.min_eq_left (by omega); omega
  case refine_3 => exact fun hp => HN.out hp
  case refine_4 => rw [fq_len, HY.out, HC.out.1]; omega
  case refine_5 =>
    intro w4 hg4 hb4
    have l1 : (splice cur (i) (fq ys)).length = cap := by rw [length_splice _ _ _ (by rw [fq_len, HY.out, HC.out.1]; omega), HC.out.1]
    have L1 := Lib.hid l1
    have HS := Lib.hid (show ∀ j u, (fq (L.drop k))[j]? = some u → w4.cell? ((⟨g, k, none⟩ : Addr).add j) = some u from fun j u hu => by
      rw [Go.WideShapes.add_plain, show w4.cell? ⟨g, k + j, none⟩ = (splice cur (i) (fq ys))[k + j]? from by simp [World.cell?, hg4]]
      rw [fq_drop, List.getElem?_drop, ← HC.out.2.2, List.getElem?_take] at hu
      split at hu
      · unfold splice
        rw [List.getElem?_append_right (by simp; omega), List.getElem?_append_right (by simp [fq_len, HY.out, HC.out.1]; omega), List.getElem?_drop, ← hu]
        congr 1
        simp [fq_len, HY.out, HC.out.1]
        omega
      · cases hu)
    have H4 := Lib.hid (And.intro hg4 hb4)
    clear hg4 hb4 l1
    go_upto_region 18 with fail
    go_region_law (refine step_copy2 (by rfl) (.tmp 103) (.tmp 106) (by rfl) (some ⟨g, im, none⟩) (some ⟨g, k, none⟩) (tt - im) (cap - im) d (cap - k) (by kernel_rfl) (by kernel_rfl) g (im) (splice cur (i) (fq ys)) 52 H4.out.1 (fq (L.drop k)) (by rw [fq_len, List.length_drop]; have : Nat.min d (tt - im) = d := Nat.min_eq_left (by omega); omega) (fun _ => ⟨rfl, _, rfl, fun j u hu => HS.out j u hu⟩) (by rw [fq_len, List.length_drop, L1.out]; omega) (fq_one _) ?_; intro w5 hg5 hb5; have H5 := Lib.hid (And.intro hg5 hb5); clear hg5 hb5)
    all_goals
      have l2 : (splice (splice cur (i) (fq ys)) (im) (fq (L.drop k))).length = cap := by rw [length_splice _ _ _ (by rw [fq_len, List.length_drop, L1.out]; omega), L1.out]
      have t2 : (splice (splice cur (i) (fq ys)) (im) (fq (L.drop k))).take (tt) = fq M := by
        have ht := (splice_two cur (fq ys) (fq (L.drop k)) (i) (im) (by rw [fq_len, HY.out]; omega) (by rw [fq_len, List.length_drop, HC.out.1]; omega)).1
        rw [fq_len, List.length_drop, show im + (L.length - k) = tt by omega] at ht
        rw [ht, ← HM.out, fq_app, fq_app, fq_take, ← HC.out.2.2, List.take_take, Nat.min_eq_left (by omega)]
      have H6 := Lib.hid (And.intro l2 t2)
      clear l2 t2
      by_cases hctt : cap = tt
      · have hL0 : L.length = tt := by omega
        go_upto_region 19 with fail
        apply wp_region_lit
        go_upto_region 20 with fail
        obtain ⟨w6, hrun, hg6, hb6⟩ := run_clear2 w5 0 (some ⟨g, 0, none⟩) 0 0 g (tt) (splice (splice cur (i) (fq ys)) (im) (fq (L.drop k))) 52 H5.out.1 (fun h => by omega) (by rw [H6.out.1]; omega)
        rw [hrun]
        have F := Fin.out
        rw [hctt, hL0] at F
        have H7 := Lib.hid (And.intro hg6 hb6)
        clear hg6 hb6 hrun
        go_wp2_with fail
        go_ret
        refine F w6 ⟨_, H7.out.1, ?_, ?_⟩ (((grown_drew H4.out.2).trans (show w4.grownBy w5 (some g) from ⟨H5.out.2.os, H5.out.2.tape, H5.out.2.output, H5.out.2.size, H5.out.2.block⟩)).trans H7.out.2)
        · rw [length_splice _ _ _ (by rw [zs_len, H6.out.1]; omega), H6.out.1, hctt]
        · rw [splice_take _ _ _ _ (Nat.le_refl _) (by rw [H6.out.1]; omega), H6.out.2]
      · go_upto_region 19 with fail
        apply wp_region_lit
        go_upto_region 20 with fail
        obtain ⟨w6, hrun, hg6, hb6⟩ := run_clear2 w5 0 (some ⟨g, tt, none⟩) (L.length - tt) (cap - tt) g (tt) (splice (splice cur (i) (fq ys)) (im) (fq (L.drop k))) 52 H5.out.1 (fun _ => rfl) (by rw [H6.out.1]; omega)
        rw [hrun]
        have H7 := Lib.hid (And.intro hg6 hb6)
        clear hg6 hb6 hrun
        go_wp2_with fail
        go_ret
        refine Fin.out w6 ⟨_, H7.out.1, ?_, ?_⟩ (((grown_drew H4.out.2).trans (show w4.grownBy w5 (some g) from ⟨H5.out.2.os, H5.out.2.tape, H5.out.2.output, H5.out.2.size, H5.out.2.block⟩)).trans H7.out.2)
        · rw [length_splice _ _ _ (by rw [zs_len, H6.out.1]; omega), H6.out.1]
        · rw [splice_take _ _ _ _ (Nat.le_refl _) (by rw [H6.out.1]; omega), H6.out.2]
end Go.Proofs.Ythjcohaldjfniaa.Ix.Pq
