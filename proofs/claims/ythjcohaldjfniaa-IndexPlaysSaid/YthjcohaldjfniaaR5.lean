/- index: the document's Range and Next, walked. -/
import Derived.Test.YthjcohaldjfniaaT1
namespace Go.Proofs.Ythjcohaldjfniaa.Ix
open Go Go.RowKit
open Pq (Pg pv fq)
open It (fl)
def RrI (w : World) (D : IL) (v : Value) (W : World) : Prop := W.ownsRow w.heap.size 45 2 v D.length (fl D) ∧ Below w.heap.size w W ∧ D.length ≤ 5000
theorem range_take {L : IL} {i : Nat} {q : Int × Int} (hq : L[i]? = some q) (a b : Int) : rangeL (L.take (i + 1)) a b = rangeL (L.take i) a b ++ (if a ≤ q.1 ∧ q.1 ≤ b then [q] else []) := by
  obtain ⟨h5, e5⟩ := List.getElem?_eq_some_iff.1 hq
  rw [List.take_succ_eq_append_getElem h5, e5]
  unfold rangeL
  rw [List.filter_append]
  by_cases h : a ≤ q.1 ∧ q.1 ≤ b <;> simp [h]
theorem range_len (L : IL) (a b : Int) : (rangeL L a b).length ≤ L.length := List.length_filter_le _ _
def RrE (w : World) (M : IL) (e : Ending) (w' : World) : Prop := ∃ ao cap, e = .returned (.slice ao M.length cap) ∧ M.length ≤ cap ∧ Rl w' ao M ∧ Below w.heap.size w w'
set_option maxRecDepth 100000 in
set_option maxHeartbeats 2000000 in
theorem rrange_any {w : World} {B p : Nat} {F : Nat → Prop} {v : Value} {L : IL} (h : RefAt w B F p v L) (a b : Int) (hn : L.length ≤ 4500) :
    Calls Try.prog 23 #[.pointer (some ⟨p, 0, none⟩), .int .u64 a, .int .u64 b] w (RrE w (rangeL L a b)) := by
  obtain ⟨i0, hi0, hz0, hz1, hz2⟩ := info_parts info45
  obtain ⟨ao, cap, rfl, hcap, hr⟩ := slice45 h.row rfl
  have c0w : w.cell? ⟨p, 0, none⟩ = some (.slice ao L.length cap) := by simp [World.cell?, h.cell]
  have hp := h.lt
  have HR := Lib.hid hr
  obtain ⟨N, hN⟩ : ∃ N, L.length = N := ⟨_, rfl⟩
  rw [hN] at c0w hcap hn
  have HN := Lib.hid hN
  have HC := Lib.hid c0w
  clear h hr hN c0w
  go_enter Try.func23, Try.ntmps23
  go_wp2_with fail
  go_loopw [7, 8] (fun u7 u8 wr => ∃ i : Nat, i ≤ N ∧ u8 = .int .i64 i ∧ Hid (RrI w (rangeL (L.take i) a b) u7 wr)) (fun _ u8 _ => N - (intOf u8).toNat)
  case atStart => exact ⟨0, Nat.zero_le _, rfl, Lib.hid ⟨World.ownsRow_nil _ _ _ _, Below.refl _ _, by simp [rangeL]⟩⟩
  case round =>
    obtain ⟨i, hi, rfl, I⟩ := hrel
    have c0 := (I.out.2.1.cell (p := ⟨p, 0, none⟩) hp).trans HC.out
    by_cases hlt : i < N
    · have hy := getD_at L i (0, 0) (by have := HN.out; omega)
      obtain ⟨y, ey⟩ : ∃ y, y = L.getD i (0, 0) := ⟨_, rfl⟩
      rw [← ey] at hy
      obtain ⟨g, rfl, gl, c1w, c2w⟩ := HR.out i y hy
      have c1 := (I.out.2.1.cell (p := ⟨g, i * 2, none⟩) gl).trans c1w
      have c2 := (I.out.2.1.cell (p := ⟨g, i * 2 + 1, none⟩) gl).trans c2w
      have ii : (i : Int) < (N : Int) := by omega
      have HY := Lib.hid hy
      clear hy ey c1w c2w
      have hI := I.out
      have hrt := range_take HY.out a b
      have hpl : (rangeL (L.take i) a b).length ≤ N := Nat.le_trans (range_len _ _ _) (by simp; omega)
      obtain ⟨D, eD⟩ : ∃ D, D = rangeL (L.take i) a b := ⟨_, rfl⟩
      rw [← eD] at hI hpl hrt
      have HRT := Lib.hid hrt
      clear I eD hrt
      by_cases ha : a ≤ y.1
      · by_cases hb : y.1 ≤ b
        · have hRF := Lib.hid (show (wr.alloc (.cells #[.int .u64 y.1, .int .u64 y.2] 45)).ownsRow w.heap.size 45 2 u7 D.length (fl D) from World.ownsRow.alloc hI.1 _)
          have hBx := Lib.hid (hI.2.1.alloc hI.2.1.size (.cells #[.int .u64 y.1, .int .u64 y.2] 45))
          have hNx := Lib.hid (news45 wr y)
          have HI := Lib.hid hI
          clear hI
          go_wp2_with (at_builtin; refine wpList_append_own_at _ rfl (.tmp 44) (.tmp 52) 28 rfl w.heap.size 45 i0 _ 2 16 Try.underlying28 hi0 hz0 hz1 hz2 rfl (by decide) _ _ _ rfl hRF.out ⟨wr.heap.size, 0, none⟩ 1 1 (fl [y]) rfl rfl hNx.out (It.fl_one _) (by unfold maxLen; omega) (by omega) hBx.out.size ?_; intro v' w3 hown3 hgrow3 _ _; have H3 := Lib.hid (And.intro hown3 (grown_below hBx.out hgrow3 (fun k e => (World.ownsRow.lt hRF.out k e).1))); clear hown3 hgrow3)
          go_roundw
          case rel =>
            refine ⟨i + 1, by omega, by go_num, Lib.hid ⟨?_, H3.out.2, ?_⟩⟩
            · rw [HRT.out, if_pos ⟨ha, hb⟩, It.fl_app, List.length_append]; exact H3.out.1
            · rw [HRT.out, if_pos ⟨ha, hb⟩, List.length_append]; simp; omega
          case measure => simp [intOf]; omega
        · have HI := Lib.hid hI
          clear hI
          go_wp2_with fail
          go_roundw
          case rel =>
            refine ⟨i + 1, by omega, by go_num, Lib.hid ?_⟩
            rw [HRT.out, if_neg (by omega), List.append_nil]; exact HI.out
          case measure => simp [intOf]; omega
      · have HI := Lib.hid hI
        clear hI
        go_wp2_with fail
        go_roundw
        case rel =>
          refine ⟨i + 1, by omega, by go_num, Lib.hid ?_⟩
          rw [HRT.out, if_neg (by omega), List.append_nil]; exact HI.out
        case measure => simp [intOf]; omega
    · obtain rfl : i = N := by omega
      have hI := I.out
      rw [List.take_of_length_le (by have := HN.out; omega)] at hI
      have HI := Lib.hid hI
      clear hI I
      go_wp2_with fail
      go_ret
      obtain ⟨ao2, c2, rfl, h5, h6⟩ := slice45 HI.out.1 rfl
      exact ⟨ao2, c2, rfl, h5, h6, HI.out.2.1⟩
theorem rr_next {L : IL} {k : Int} (h : ∀ e ∈ L, e.1 ≤ 18446744073709551615) : rangeL L k 18446744073709551615 = nextL L k := by
  unfold rangeL nextL
  refine List.filter_congr (fun e he => ?_)
  have := h e he
  by_cases h1 : k ≤ e.1 <;> simp [h1, this]
theorem nx_fin45 {w w1 : World} {z : Nat} (hb : Below w.heap.size w w1) (hz : w.heap.size ≤ z) (a b : Int) : Below w.heap.size w ((w1.setCell ⟨z, 0, none⟩ (.int .u64 a)).setCell ⟨z, 1, none⟩ (.int .u64 b)) := nx_fin hb hz a b
theorem nx_cells45 {w1 : World} {z : Nat} (hz : w1.heap[z]? = some (.cells #[.int .u64 0, .int .u64 0] 45 (0, 0))) (a b : Int) :
    w1.frozen? ⟨z, 0, none⟩ = false ∧ w1.frozen? ⟨z, 1, none⟩ = false ∧ w1.cell? ⟨z, 0, none⟩ = some (.int .u64 0) ∧ w1.cell? ⟨z, 1, none⟩ = some (.int .u64 0) ∧
    (w1.setCell ⟨z, 0, none⟩ (.int .u64 a)).cell? ⟨z, 0, none⟩ = some (.int .u64 a) ∧ ((w1.setCell ⟨z, 0, none⟩ (.int .u64 a)).setCell ⟨z, 1, none⟩ (.int .u64 b)).cell? ⟨z, 1, none⟩ = some (.int .u64 b) := by
  have h2 := set_block (i := 1) (v := .int .u64 b) (set_block (i := 0) (v := .int .u64 a) hz)
  exact ⟨free1 hz, free1 hz, by simp [World.cell?, hz], by simp [World.cell?, hz], by simp [World.cell?, set_block (i := 0) (v := .int .u64 a) hz], by simp [World.cell?, h2]⟩
set_option maxRecDepth 100000 in
theorem rnext_any {w : World} {B p : Nat} {F : Nat → Prop} {v : Value} {L : IL} (h : RefAt w B F p v L) (k : Int) (hn : L.length ≤ 4500) (hk : ∀ e ∈ L, e.1 ≤ 18446744073709551615) :
    Calls Try.prog 17 #[.pointer (some ⟨p, 0, none⟩), .int .u64 k] w (NextE w L k) := by
  have hb0 := (Below.refl w.heap.size w).alloc (Nat.le_refl _) (.cells #[.int .u64 0, .int .u64 0] 45)
  have HC := Lib.hid (rrange_any (h.below hb0) k 18446744073709551615 hn)
  rw [rr_next hk] at HC
  have HB0 := Lib.hid hb0
  clear h hb0 hk
  go_enter Try.func17, Try.ntmps17
  go_wp2_with fail
  refine HC.out.mono ?_
  rintro e w1 ⟨ao, cap, rfl, hcap, hr, hb⟩
  have hz := (hb.block w.heap.size (by simp)).trans (heap_alloc_new w (.cells #[.int .u64 0, .int .u64 0] 45))
  have hbz := HB0.out.trans (hb.mono HB0.out.size)
  cases hM : nextL L k with
  | nil =>
    have HM := Lib.hid hM
    have HZ := Lib.hid (nx_fin hbz (Nat.le_refl _) 0 0)
    obtain ⟨z0, z1, z2, z3, z4, z5⟩ := nx_cells45 hz 0 0
    simp only [List.length_nil]
    clear hM hz hbz hr hb hcap
    go_wp2_with fail
    exact bodyPost_ret (v := .tuple #[.agg #[.int .u64 0, .int .u64 0], .bool false]) (by simp [results, Try.results17, go_sem, z4, z5]) rfl ⟨(0, 0), false, rfl, .inr ⟨rfl, rfl, HM.out⟩, HZ.out⟩
  | cons q M =>
    have HM := Lib.hid hM
    rw [hM] at hr
    obtain ⟨g, rfl, _, c1, c2⟩ := hr 0 q rfl
    simp only [Nat.zero_mul, Nat.zero_add] at c1 c2
    have HZ := Lib.hid (nx_fin hbz (Nat.le_refl _) q.1 q.2)
    obtain ⟨z0, z1, z2, z3, z4, z5⟩ := nx_cells45 hz q.1 q.2
    obtain ⟨n, en⟩ : ∃ n : Nat, (q :: M).length = n := ⟨_, rfl⟩
    have n0 : (0 : Int) < (n : Int) := by rw [← en]; simp
    have n1 : ((n : Int) == 0) = false := beq_eq_false_iff_ne.2 (by omega)
    rw [en]
    clear hM hz hbz hb hcap hr en
    go_wp2_with fail
    exact bodyPost_ret (v := .tuple #[.agg #[.int .u64 q.1, .int .u64 q.2], .bool true]) (by simp [results, Try.results17, go_sem, z4, z5]) rfl ⟨q, true, rfl, .inl ⟨rfl, by rw [HM.out]; rfl⟩, HZ.out⟩
end Go.Proofs.Ythjcohaldjfniaa.Ix
