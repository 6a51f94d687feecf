/- index: slices.Insert of items, walked. -/
import Derived.Test.YthjcohaldjfniaaI1
namespace Go.Proofs.Ythjcohaldjfniaa.Ix.It
open Go Go.RowKit
theorem insert_none (B : Nat) (v : Value) (L : List (Int × Int)) (i : Nat) (so : Option Addr) (sc : Nat) (w : World) (hown : w.ownsRow B 42 2 v L.length (fl L)) (hi : i ≤ L.length) :
    Calls Try.prog 26 #[v, .int .i64 i, .slice so 0 sc] w fun e w' => e = .returned v ∧ w = w' := by
  obtain ⟨ao, cap, rfl, hnc, hno, _⟩ := own_slice hown
  have i1 : (i : Int) ≤ (L.length : Int) := by omega
  go_enter Try.func26, Try.ntmps26
  by_cases hci : cap = i
  all_goals
    go_wp2
    go_ret
    exact ⟨rfl, rfl⟩
set_option maxRecDepth 100000 in
theorem insert_end (B : Nat) (v : Value) (L : List (Int × Int)) (so : Option Addr) (m sc : Nat) (ys : List (Int × Int)) (w : World) (hown : w.ownsRow B 42 2 v L.length (fl L)) (hB : B ≤ w.heap.size) (hL : L.length ≤ 100000) (h0 : 0 < m) (hm : m ≤ 2) (hs : SrcY w v so m ys) :
    Calls Try.prog 26 #[v, .int .i64 L.length, .slice so m sc] w (RepR w B v (L ++ ys)) := by
  obtain ⟨b, rfl, hb1, hb2, _, hb4⟩ := hs.cells h0
  obtain ⟨i0, hi, hz0, hz1, hz2⟩ := info_parts info42
  have HO := Lib.hid hown
  have HN := Lib.hid (show ∀ j u, (fl ys)[j]? = some u → w.cell? ((⟨b, 0, none⟩ : Addr).add j) = some u from fun j u hu => by
    rw [Go.WideShapes.add_plain, Nat.zero_add]
    exact hb4 w ⟨rfl, rfl, rfl, Nat.le_refl _, fun _ _ _ => rfl⟩ j u hu)
  have HY := Lib.hid hs.1
  obtain ⟨ao, cap, rfl, hnc, hno, _⟩ := own_slice hown
  have m0 : ((m : Int) == 0) = false := by simp; omega
  clear hown hb1 hb2 hb4 hs
  go_enter Try.func26, Try.ntmps26
  by_cases hci : cap = L.length
  all_goals
    go_wp2_with (at_builtin; refine wpList_append_lies _ rfl (.tmp 23) (.tmp 24) 52 rfl B 42 i0 _ 2 16 Try.underlying52 hi hz0 hz1 hz2 rfl (by decide) _ L.length (fl L) rfl HO.out ⟨b, 0, none⟩ m sc (fl ys) rfl (by rw [fl_len, HY.out]) HN.out (fl_one ys) h0 (by unfold maxLen; omega) (by omega) hB _ rfl ?_; intro g3 c3 w3 hown3 hgrow3 hat3 _; have H3 := Lib.hid (And.intro hown3 (And.intro hgrow3 hat3)); clear hown3 hgrow3 hat3)
    go_ret
    obtain ⟨a1, a2, a3⟩ := H3.out
    refine ⟨_, rfl, ?_, a2, fun g e => ?_⟩
    · rw [fl_app, List.length_append, HY.out]; exact a1
    · have e' : g3 = g := by simpa [Value.ownBlock] using e
      subst e'
      exact a3.imp id (fun h => by omega)
set_option maxRecDepth 100000 in
set_option maxHeartbeats 1000000 in
theorem insert_grow (B g cap : Nat) (L : List (Int × Int)) (i : Nat) (so : Option Addr) (m sc : Nat) (ys : List (Int × Int)) (w : World) (hown : w.ownsRow B 42 2 (.slice (some ⟨g, 0, none⟩) L.length cap) L.length (fl L)) (hi : i < L.length) (hB : B ≤ w.heap.size) (hL : L.length ≤ 100000) (h0 : 0 < m) (hm : m ≤ 2) (hgrow : cap < L.length + m) (hs : SrcY w (.slice (some ⟨g, 0, none⟩) L.length cap) so m ys) :
    Calls Try.prog 26 #[.slice (some ⟨g, 0, none⟩) L.length cap, .int .i64 i, .slice so m sc] w (RepR w B (.slice (some ⟨g, 0, none⟩) L.length cap) (L.take i ++ ys ++ L.drop i)) := by
  obtain ⟨b, rfl, hb1, hb2, _, hb4⟩ := hs.cells h0
  obtain ⟨ao', cap', e, hnc, _, hcells⟩ := own_slice hown
  obtain ⟨g', e', hcells⟩ := hcells (by omega)
  have : g' = g ∧ cap' = cap := by
    simp only [Value.slice.injEq] at e
    rw [e'] at e
    simp at e
    omega
  obtain ⟨rfl, rfl⟩ := this
  clear e e'
  have HY := Lib.hid hs.1
  have HN := Lib.hid hb4
  have HC := Lib.hid hcells
  have hgw := Lib.hid (World.ownsRow.lt hown g' rfl)
  have hb1' : b ≠ g' := fun e => hb1 (by rw [e]; rfl)
  have m0 : ((m : Int) == 0) = false := by simp; omega
  have in0 : ((i : Int) == (L.length : Int)) = false := by simp; omega
  have hci : ¬ cap' = i := by omega
  obtain ⟨nm, hnm⟩ : ∃ nm : Nat, L.length + m = nm := ⟨_, rfl⟩
  obtain ⟨im, him⟩ : ∃ im : Nat, i + m = im := ⟨_, rfl⟩
  obtain ⟨k, hk⟩ : ∃ k : Nat, i + k = nm := ⟨nm - i, by omega⟩
  have inm : (L.length : Int) + (m : Int) = (nm : Int) := by omega
  have iim : (i : Int) + (m : Int) = (im : Int) := by omega
  have ik : (nm : Int) - (i : Int) = (k : Int) := by omega
  have w1 : IntKind.i64.wrap (nm : Int) = (nm : Int) := by simp [IntKind.wrap, IntKind.bits, IntKind.signed]; omega
  have w2 : IntKind.i64.wrap (k : Int) = (k : Int) := by simp [IntKind.wrap, IntKind.bits, IntKind.signed]; omega
  have w3 : IntKind.i64.wrap (im : Int) = (im : Int) := by simp [IntKind.wrap, IntKind.bits, IntKind.signed]; omega
  have hgt : (cap' : Int) < (nm : Int) := by omega
  have HP := Lib.hid (show (∀ j u, (fl (L.take i))[j]? = some u → w.cell? ⟨g', j, none⟩ = some u) ∧ (fl (L.take i)).length = i * 2 from ⟨fun j u hu => hcells j u (by
    rw [fl_take, List.getElem?_take] at hu
    split at hu
    · exact hu
    · cases hu), by rw [fl_len, List.length_take]; omega⟩)
  clear hown hb1 hb4 hs hcells
  go_enter Try.func26, Try.ntmps26
  go_upto_region 9 with fail
  apply wp_region_lit
  go_upto_region 10 with (at_builtin; refine wpList_append_made2 rfl (.tmp 34) (.tmp 39) rfl g' i cap' k (fl (L.take i)) rfl rfl ?_ ?_ ?_ ?_ ?_ ?_ ?_)
  case refine_1 => exact HP.out.1
  case refine_2 => exact HP.out.2
  case refine_3 => omega
  case refine_4 => omega
  case refine_5 => omega
  case refine_6 => omega
  case refine_7 =>
    intro c2 w2 cur hg2 hl2 hn2 hm2 ht2 hb2
    have hn2' : nm ≤ c2 := by omega
    have hc2 : ¬ c2 = i := by omega
    have hc3 : ¬ c2 = im := by omega
    have H2 := Lib.hid (And.intro hg2 (And.intro hl2 (And.intro hm2 (And.intro ht2 hb2))))
    have q1 : (i : Int) ≤ (nm : Int) := by omega
    have q2 : (im : Int) ≤ (nm : Int) := by omega
    have q4 : (i : Int) ≤ (L.length : Int) := by omega
    clear hg2 hl2 hm2 ht2 hb2 hn2
    go_upto_region 10 with fail
    apply wp_region_lit
    go_upto_region 11 with (refine wpList_copy2 rfl (.tmp 43) (.tmp 44) rfl _ _ _ _ _ _ rfl rfl w.heap.size (i * 2) cur 42 ?_ (fl ys) ?_ ?_ ?_ (fl_one ys) ?_)
    case refine_1 => exact H2.out.1
    case refine_2 => rw [fl_len, HY.out]; have : Nat.min m (nm - i) = m := Nat.min_eq_left (by omega); omega
    case refine_3 => exact fun _ j u hu => HN.out w2 ⟨H2.out.2.2.2.2.os, H2.out.2.2.2.2.tape, H2.out.2.2.2.2.output, H2.out.2.2.2.2.size, fun k hk _ => H2.out.2.2.2.2.block k hk (by simp)⟩ j u hu
    case refine_4 => rw [fl_len, HY.out, H2.out.2.1]; omega
    case refine_5 =>
      intro w4 hg4 hb4
      have HS := Lib.hid (show ∀ j u, (fl (L.drop i))[j]? = some u → w4.cell? ((⟨g', i * 2, none⟩ : Addr).add j) = some u from fun j u hu => by
        rw [Go.WideShapes.add_plain]
        rw [fl_drop, List.getElem?_drop] at hu
        have h1 := HC.out _ u hu
        have h2 := (H2.out.2.2.2.2.cell_far ⟨g', i * 2 + j, none⟩ hgw.out.2 (by simp)).trans h1
        exact (hb4.cell_far ⟨g', i * 2 + j, none⟩ (Nat.lt_of_lt_of_le hgw.out.2 H2.out.2.2.2.2.size) (by have := hgw.out; simp; omega)).trans h2)
      have H4 := Lib.hid (And.intro hg4 hb4)
      clear hg4 hb4
      go_upto_region 11 with fail
      go_region_law (refine step_copy2 (by rfl) (.tmp 50) (.tmp 53) (by rfl) (some ⟨w.heap.size, im * 2, none⟩) (some ⟨g', i * 2, none⟩) (nm - im) (c2 - im) (L.length - i) (cap' - i) (by kernel_rfl) (by kernel_rfl) w.heap.size (im * 2) (splice cur (i * 2) (fl ys)) 42 H4.out.1 (fl (L.drop i)) (by rw [fl_len, List.length_drop]; have : Nat.min (L.length - i) (nm - im) = L.length - i := Nat.min_eq_left (by omega); omega) (fun _ => ⟨rfl, _, rfl, fun j u hu => HS.out j u hu⟩) (by rw [fl_len, List.length_drop, length_splice _ _ _ (by rw [fl_len, HY.out, H2.out.2.1]; omega), H2.out.2.1]; omega) (fl_one _) ?_; intro w5 hg5 hb5; have H5 := Lib.hid (And.intro hg5 hb5); clear hg5 hb5)
      all_goals
        go_wp2_with fail
        go_ret
        have hB1 := H2.out.2.2.2.2
        have hB2 := H4.out.2
        have hB3 := H5.out.2
        have sz := hB1.size
        have sz2 := hB2.size
        refine ⟨_, rfl, ?_, ⟨?_, ?_, ?_, ?_, fun j hj _ => ?_⟩, fun g e => .inr ?_⟩
        · have e1 : (L.take i ++ ys ++ L.drop i).length = nm := by simp only [List.length_append, List.length_take, List.length_drop, HY.out]; omega
          rw [e1]
          refine own_mk hB H5.out.1 ?_ hn2' H2.out.2.2.1 ?_
          · rw [length_splice _ _ _ (by rw [fl_len, List.length_drop, length_splice _ _ _ (by rw [fl_len, HY.out, H2.out.2.1]; omega), H2.out.2.1]; omega), length_splice _ _ _ (by rw [fl_len, HY.out, H2.out.2.1]; omega), H2.out.2.1]
          · have ht := (splice_two cur (fl ys) (fl (L.drop i)) (i * 2) (im * 2) (by rw [fl_len, HY.out]; omega) (by rw [fl_len, List.length_drop, H2.out.2.1]; omega)).1
            rw [fl_len, List.length_drop, show im * 2 + (L.length - i) * 2 = nm * 2 by omega, H2.out.2.2.2.1] at ht
            rw [ht, fl_app, fl_app]
        · exact (hB3.os.trans hB2.os).trans hB1.os
        · exact (hB3.tape.trans hB2.tape).trans hB1.tape
        · exact (hB3.output.trans hB2.output).trans hB1.output
        · exact Nat.le_trans sz (Nat.le_trans sz2 hB3.size)
        · exact (hB3.block j (by show j < w4.heap.size; omega) (by simp; omega)).trans ((hB2.block j (by omega) (by simp; omega)).trans (hB1.block j hj (by simp)))
        · have e' : w.heap.size = g := by simpa [Value.ownBlock] using e
          omega
set_option maxRecDepth 100000 in
set_option maxHeartbeats 1000000 in
theorem insert_room (B g cap : Nat) (cur : List Value) (L : List (Int × Int)) (i : Nat) (so : Option Addr) (m sc : Nat) (ys : List (Int × Int)) (w : World) (hBg : B ≤ g) (hg : w.heap[g]? = some (.cells cur.toArray 42 (0, 0))) (hc : cur.length = cap * 2) (hcm : cap ≤ maxLen) (ht : cur.take (L.length * 2) = fl L) (hi : i < L.length) (hL : L.length ≤ 100000) (h0 : 0 < m) (hm : m ≤ 2) (hroom : L.length + m ≤ cap) (hs : SrcY w (.slice (some ⟨g, 0, none⟩) L.length cap) so m ys) :
    Calls Try.prog 26 #[.slice (some ⟨g, 0, none⟩) L.length cap, .int .i64 i, .slice so m sc] w (RepR w B (.slice (some ⟨g, 0, none⟩) L.length cap) (L.take i ++ ys ++ L.drop i)) := by
  obtain ⟨b, rfl, hb1, hb2, ⟨src, hb3, hb5⟩, hb4⟩ := hs.cells h0
  have HY := Lib.hid hs.1
  have HN := Lib.hid hb4
  have hb1' : b ≠ g := fun e => hb1 (by rw [e]; rfl)
  have m0 : ((m : Int) == 0) = false := by simp; omega
  have in0 : ((i : Int) == (L.length : Int)) = false := by simp; omega
  obtain ⟨nm, hnm⟩ : ∃ nm : Nat, L.length + m = nm := ⟨_, rfl⟩
  obtain ⟨im, him⟩ : ∃ im : Nat, i + m = im := ⟨_, rfl⟩
  have hci : ¬ cap = i := by omega
  have hcim : ¬ cap = im := by omega
  have inm : (L.length : Int) + (m : Int) = (nm : Int) := by omega
  have iim : (i : Int) + (m : Int) = (im : Int) := by omega
  have w1 : IntKind.i64.wrap (nm : Int) = (nm : Int) := by simp [IntKind.wrap, IntKind.bits, IntKind.signed]; omega
  have w3 : IntKind.i64.wrap (im : Int) = (im : Int) := by simp [IntKind.wrap, IntKind.bits, IntKind.signed]; omega
  have hgt : ¬ (cap : Int) < (nm : Int) := by omega
  have q0 : (nm : Int) ≤ (cap : Int) := by omega
  have q1 : (i : Int) ≤ (nm : Int) := by omega
  have q2 : (im : Int) ≤ (nm : Int) := by omega
  have q4 : (i : Int) ≤ (L.length : Int) := by omega
  have hov : ∀ lb cb, (callFunc 37 #[.slice (some ⟨b, 0, none⟩) m sc, .slice (some ⟨g, im * 2, none⟩) lb cb]).run Try.prog w = .ok (.value (.bool false)) w := fun lb cb =>
    overlaps_no w ⟨b, 0, none⟩ ⟨g, im * 2, none⟩ rfl hb1' hb3 hg (by simp; omega) m sc lb cb
  have HG := Lib.hid hg
  have HC := Lib.hid (And.intro hc (And.intro hcm ht))
  have HS := Lib.hid (show ∀ j u, (fl (L.drop i))[j]? = some u → w.cell? ((⟨g, i * 2, none⟩ : Addr).add j) = some u from fun j u hu => by
    rw [Go.WideShapes.add_plain, show w.cell? ⟨g, i * 2 + j, none⟩ = cur[i * 2 + j]? from by simp [World.cell?, hg]]
    rw [fl_drop, List.getElem?_drop, ← ht] at hu
    rw [List.getElem?_take] at hu
    split at hu
    · exact hu
    · cases hu)
  clear hb1 hb3 hb4 hb5 hs hg hc hcm ht
  go_enter Try.func26, Try.ntmps26
  go_upto_region 15 with (simp only [hov])
  go_region_law (refine step_copy2 (by rfl) (.tmp 73) (.tmp 76) (by rfl) (some ⟨g, im * 2, none⟩) (some ⟨g, i * 2, none⟩) (nm - im) (cap - im) (nm - i) (cap - i) (by kernel_rfl) (by kernel_rfl) g (im * 2) cur 42 HG.out (fl (L.drop i)) (by rw [fl_len, List.length_drop]; have : Nat.min (nm - i) (nm - im) = nm - im := Nat.min_eq_right (by omega); omega) (fun _ => ⟨rfl, _, rfl, fun j u hu => HS.out j u hu⟩) (by rw [fl_len, List.length_drop, HC.out.1]; omega) (fl_one _) ?_; intro w5 hg5 hb5; have H5 := Lib.hid (And.intro hg5 hb5); clear hg5 hb5)
  all_goals
    go_upto_region 16 with fail
    apply wp_region_lit
    go_upto_region 17 with (refine wpList_copy2 rfl (.tmp 80) (.tmp 81) rfl _ _ _ _ _ _ rfl rfl g (i * 2) (splice cur (im * 2) (fl (L.drop i))) 42 ?_ (fl ys) ?_ ?_ ?_ (fl_one ys) ?_)
    case refine_1 => exact H5.out.1
    case refine_2 => rw [fl_len, HY.out]; have : Nat.min m (nm - i) = m := Nat.min_eq_left (by omega); omega
    case refine_3 => exact fun _ j u hu => HN.out w5 ⟨H5.out.2.os, H5.out.2.tape, H5.out.2.output, H5.out.2.size, fun k hk hne => H5.out.2.block k hk (fun e => hne (by rw [e]; rfl))⟩ j u hu
    case refine_4 => rw [fl_len, HY.out, length_splice _ _ _ (by rw [fl_len, List.length_drop, HC.out.1]; omega), HC.out.1]; omega
    case refine_5 =>
      intro w6 hg6 hb6
      have H6 := Lib.hid (And.intro hg6 hb6)
      clear hg6 hb6
      go_wp2_with fail
      go_ret
      have hB2 := H5.out.2
      have hB3 := H6.out.2
      refine ⟨_, rfl, ?_, ⟨hB3.os.trans hB2.os, hB3.tape.trans hB2.tape, hB3.output.trans hB2.output, Nat.le_trans hB2.size hB3.size, fun j hj hne => ?_⟩, fun g' e => .inl ?_⟩
      · have e1 : (L.take i ++ ys ++ L.drop i).length = nm := by simp only [List.length_append, List.length_take, List.length_drop, HY.out]; omega
        rw [e1]
        refine own_mk hBg H6.out.1 ?_ (by omega) HC.out.2.1 ?_
        · rw [length_splice _ _ _ (by rw [fl_len, HY.out, length_splice _ _ _ (by rw [fl_len, List.length_drop, HC.out.1]; omega), HC.out.1]; omega), length_splice _ _ _ (by rw [fl_len, List.length_drop, HC.out.1]; omega), HC.out.1]
        · have ht := (splice_two cur (fl ys) (fl (L.drop i)) (i * 2) (im * 2) (by rw [fl_len, HY.out]; omega) (by rw [fl_len, List.length_drop, HC.out.1]; omega)).2
          rw [fl_len, List.length_drop, show im * 2 + (L.length - i) * 2 = nm * 2 by omega] at ht
          rw [ht, fl_app, fl_app, fl_take, ← HC.out.2.2, List.take_take, Nat.min_eq_left (by omega)]
      · have hne' : some j ≠ some g := fun e => hne (by rw [e]; rfl)
        exact (hB3.block j (Nat.lt_of_lt_of_le hj hB2.size) hne').trans (hB2.block j hj hne')
      · have e' : g = g' := by simpa [Value.ownBlock] using e
        rw [← e']; rfl
end Go.Proofs.Ythjcohaldjfniaa.Ix.It
