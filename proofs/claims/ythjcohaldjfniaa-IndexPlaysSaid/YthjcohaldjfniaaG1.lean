/- index: Get, Next, walked. -/
import Derived.Test.YthjcohaldjfniaaL5
namespace Go.Proofs.Ythjcohaldjfniaa.Ix
open Go Go.RowKit
open Pq (Pg pv fq)
open It (fl)
theorem IdxAt.reads {w : World} {B p : Nat} {F : Nat → Prop} {g cap : Nat} {X : List Pg} (h : IdxAt w B F p (.slice (some ⟨g, 0, none⟩) X.length cap) X) (h0 : 0 < X.length) : ∀ (j : Nat) (s : Pg), X[j]? = some s → w.cell? ⟨g, j, none⟩ = some (pv s) := by
  intro j s hs
  obtain ⟨ao, c, e, _, _, hc⟩ := Pq.own_slice h.row
  obtain ⟨g', rfl, hc2⟩ := hc h0
  simp only [Value.slice.injEq, Option.some.injEq, Addr.mk.injEq, and_true, true_and] at e
  obtain ⟨rfl, rfl⟩ := e
  exact hc2 j _ (Pq.fq_at hs)
def GetE (w : World) (L : IL) (k : Int) (e : Ending) (w' : World) : Prop :=
  ∃ (u : Int) (ok : Bool), e = .returned (.tuple #[.int .u64 u, .bool ok]) ∧ ((ok = true ∧ (k, u) ∈ L) ∨ (ok = false ∧ u = 0 ∧ ¬ hasL L k)) ∧ Below w.heap.size w w'
theorem get_nil (k : Int) (w : World) : Calls Try.prog 14 #[.pointer none, .int .u64 k] w fun e w' => e = .returned (.tuple #[.int .u64 0, .bool false]) ∧ Below w.heap.size w w' := by
  go_enter Try.func14, Try.ntmps14
  go_wp2_with (go_at_call 24; refine (find_nil k w).mono ?_; rintro e w1 ⟨rfl, hb1⟩; have HB := Lib.hid hb1; clear hb1)
  go_ret2
  exact ⟨rfl, HB.out⟩
set_option maxRecDepth 100000 in
theorem get_any {w : World} {B p : Nat} {F : Nat → Prop} {v : Value} {X : List Pg} (h : IdxAt w B F p v X) (k : Int) (hn : (cont X).length ≤ 4096) :
    Calls Try.prog 14 #[.pointer (some ⟨p, 0, none⟩), .int .u64 k] w (GetE w (cont X) k) := by
  by_cases hX0 : X.length = 0
  · obtain rfl := List.eq_nil_of_length_eq_zero hX0
    have HF := Lib.hid (find_none h k)
    clear h hX0
    go_enter Try.func14, Try.ntmps14
    go_wp2_with (go_at_call 24; refine HF.out.mono ?_; rintro e w1 ⟨rfl, hb1⟩; have HB := Lib.hid hb1; clear hb1)
    go_ret2
    exact ⟨0, false, rfl, .inr ⟨rfl, rfl, not_has_nil k⟩, HB.out⟩
  · have hX0 : 0 < X.length := by omega
    have hXl := cont_len h.fit
    have HF := Lib.hid (find_any h hX0 (by omega) k)
    have H := Lib.hid h
    obtain ⟨ao, cap, ev, _, hcell⟩ := h.slice
    obtain ⟨g, rfl, _⟩ := hcell hX0
    subst ev
    clear h hcell
    go_enter Try.func14, Try.ntmps14
    go_upto_region 2 with (go_at_call 24; refine HF.out.mono ?_; rintro e w1 ⟨pg, i, ok, rfl, hR, hb1⟩; have HR := Lib.hid hR; have HB := Lib.hid hb1; clear hR hb1)
    obtain ⟨t, ht, hi, hA, hC, hno, hyes⟩ := find_split H.out.fit HR.out
    cases ok with
    | false =>
      have hq := (hno rfl).2
      have HQ := Lib.hid hq
      clear ht hi hA hC hno hyes hq
      go_wp2_with fail
      go_ret2
      exact ⟨0, false, rfl, .inr ⟨rfl, rfl, HQ.out⟩, HB.out⟩
    | true =>
      obtain ⟨_, u0, hil, hiu, hd, hgt⟩ := hyes rfl
      have h1 := H.out.below HB.out
      have c0 := h1.cells.1
      have c1 := h1.reads hX0 pg t ht
      have hpl0 := (List.getElem?_eq_some_iff.1 ht).1
      have hpl : (pg : Int) < (X.length : Int) := by omega
      have hil' : (i : Int) < (t.P.length : Int) := by omega
      have hP := (h1.pgs t (List.mem_of_getElem? ht)).1
      have c2 := (hP.cells hiu).2
      have HQ := Lib.hid (show (k, u0) ∈ cont X by rw [hC, hd]; simp)
      unfold pv at c1
      clear ht hi hA hC hno hyes hiu hd hgt h1 hP
      go_wp2_with fail
      go_ret2
      exact ⟨u0, true, rfl, .inl ⟨rfl, HQ.out⟩, HB.out⟩
/-- Next. -/
def nextL (L : IL) (k : Int) : IL := L.filter (fun e => decide (k ≤ e.1))
def NextE (w : World) (L : IL) (k : Int) (e : Ending) (w' : World) : Prop :=
  ∃ (t : Int × Int) (ok : Bool), e = .returned (.tuple #[.agg #[.int .u64 t.1, .int .u64 t.2], .bool ok]) ∧ ((ok = true ∧ (nextL L k).head? = some t) ∨ (ok = false ∧ t = (0, 0) ∧ nextL L k = [])) ∧ Below w.heap.size w w'
theorem next_split {A C : IL} {k : Int} (hA : ∀ e ∈ A, e.1 < k) (hC : ∀ e ∈ C, k ≤ e.1) : nextL (A ++ C) k = C := by
  unfold nextL
  rw [List.filter_append, filter_no (L := A) (fun e he => by have := hA e he; simp; omega), filter_all (L := C) (fun e he => by simpa using hC e he), List.nil_append]
theorem nx_fin {w w1 : World} {z : Nat} (hb : Below w.heap.size w w1) (hz : w.heap.size ≤ z) (a b : Int) : Below w.heap.size w ((w1.setCell ⟨z, 0, none⟩ (.int .u64 a)).setCell ⟨z, 1, none⟩ (.int .u64 b)) :=
  grown_below hb ((grown_set w1 z 0 _).trans (grown_set _ z 1 _)) (fun k e => by injection e with e; omega)
theorem nx_cells {w1 : World} {z : Nat} (hz : w1.heap[z]? = some (.cells #[.int .u64 0, .int .u64 0] 42 (0, 0))) (a b : Int) :
    w1.frozen? ⟨z, 0, none⟩ = false ∧ w1.frozen? ⟨z, 1, none⟩ = false ∧ w1.cell? ⟨z, 0, none⟩ = some (.int .u64 0) ∧ w1.cell? ⟨z, 1, none⟩ = some (.int .u64 0) ∧
    (w1.setCell ⟨z, 0, none⟩ (.int .u64 a)).cell? ⟨z, 0, none⟩ = some (.int .u64 a) ∧ ((w1.setCell ⟨z, 0, none⟩ (.int .u64 a)).setCell ⟨z, 1, none⟩ (.int .u64 b)).cell? ⟨z, 1, none⟩ = some (.int .u64 b) := by
  have h2 := set_block (i := 1) (v := .int .u64 b) (set_block (i := 0) (v := .int .u64 a) hz)
  exact ⟨free1 hz, free1 hz, by simp [World.cell?, hz], by simp [World.cell?, hz], by simp [World.cell?, set_block (i := 0) (v := .int .u64 a) hz], by simp [World.cell?, h2]⟩
set_option maxRecDepth 100000 in
theorem next_nil (k : Int) (w : World) : Calls Try.prog 16 #[.pointer none, .int .u64 k] w (NextE w [] k) := by
  have hb0 := (Below.refl w.heap.size w).alloc (Nat.le_refl _) (.cells #[.int .u64 0, .int .u64 0] 42)
  have HF := Lib.hid (find_nil k (w.alloc (.cells #[.int .u64 0, .int .u64 0] 42)))
  have HB0 := Lib.hid hb0
  clear hb0
  go_enter Try.func16, Try.ntmps16
  go_upto_region 3 with (first
    | (go_at_call 24; refine HF.out.mono ?_; rintro e w1 ⟨rfl, hb1⟩; have HB := Lib.hid hb1; clear hb1)
    | (go_at_call 18; refine (len_nil _).mono ?_; rintro e _ ⟨rfl, rfl⟩))
  have hz := (HB.out.block w.heap.size (by simp)).trans (heap_alloc_new w (.cells #[.int .u64 0, .int .u64 0] 42))
  have HZ := Lib.hid (nx_fin (HB0.out.trans (HB.out.mono HB0.out.size)) (Nat.le_refl _) 0 0)
  obtain ⟨z0, z1, z2, z3, z4, z5⟩ := nx_cells hz 0 0
  clear hz
  go_wp2_with fail
  exact bodyPost_ret (v := .tuple #[.agg #[.int .u64 0, .int .u64 0], .bool false]) (by simp [results, Try.results16, go_sem, z4, z5]) rfl ⟨(0, 0), false, rfl, .inr ⟨rfl, rfl, rfl⟩, HZ.out⟩
set_option maxRecDepth 100000 in
theorem next_any {w : World} {B p : Nat} {F : Nat → Prop} {v : Value} {X : List Pg} (h : IdxAt w B F p v X) (k : Int) (hn : (cont X).length ≤ 4096) :
    Calls Try.prog 16 #[.pointer (some ⟨p, 0, none⟩), .int .u64 k] w (NextE w (cont X) k) := by
  have hb0 := (Below.refl w.heap.size w).alloc (Nat.le_refl _) (.cells #[.int .u64 0, .int .u64 0] 42)
  have h0 := h.below hb0
  by_cases hX0 : X.length = 0
  · obtain rfl := List.eq_nil_of_length_eq_zero hX0
    have HF := Lib.hid (find_none h0 k)
    have HB0 := Lib.hid hb0
    have H0 := Lib.hid h0
    clear h hX0 h0 hb0
    go_enter Try.func16, Try.ntmps16
    go_upto_region 3 with (first
      | (go_at_call 24; refine HF.out.mono ?_; rintro e w1 ⟨rfl, hb1⟩; have HB := Lib.hid hb1; clear hb1)
      | (go_at_call 18; refine (len_any (H0.out.below HB.out)).mono ?_; rintro e _ ⟨rfl, rfl⟩; simp only [cont, List.flatMap_nil, List.length_nil]))
    have hz := (HB.out.block w.heap.size (by simp)).trans (heap_alloc_new w (.cells #[.int .u64 0, .int .u64 0] 42))
    have HZ := Lib.hid (nx_fin (HB0.out.trans (HB.out.mono HB0.out.size)) (Nat.le_refl _) 0 0)
    obtain ⟨z0, z1, z2, z3, z4, z5⟩ := nx_cells hz 0 0
    clear hz
    go_wp2_with fail
    exact bodyPost_ret (v := .tuple #[.agg #[.int .u64 0, .int .u64 0], .bool false]) (by simp [results, Try.results16, go_sem, z4, z5]) rfl ⟨(0, 0), false, rfl, .inr ⟨rfl, rfl, rfl⟩, HZ.out⟩
  · have hX0 : 0 < X.length := by omega
    have hXl := cont_len h.fit
    have HF := Lib.hid (find_any h0 hX0 (by omega) k)
    have HB0 := Lib.hid hb0
    have H0 := Lib.hid h0
    obtain ⟨ao, cap, ev, _, hcell⟩ := h.slice
    obtain ⟨g, rfl, _⟩ := hcell hX0
    subst ev
    have n0 : (((cont X).length : Int) == 0) = false := beq_eq_false_iff_ne.2 (by omega)
    clear h h0 hb0 hcell
    go_enter Try.func16, Try.ntmps16
    go_upto_region 4 with (first
      | (go_at_call 24; refine HF.out.mono ?_; rintro e w1 ⟨pg, i, ok, rfl, hR, hb1⟩; have HR := Lib.hid hR; have HB := Lib.hid hb1; clear hR hb1)
      | (go_at_call 18; refine (len_any (H0.out.below HB.out)).mono ?_; rintro e _ ⟨rfl, rfl⟩))
    have h1 := H0.out.below HB.out
    obtain ⟨t, ht, hi, hA, hC, hno, hyes⟩ := find_split h1.fit HR.out
    have hge : ∀ e ∈ t.P.drop i ++ cont (X.drop (pg + 1)), k ≤ e.1 := by
      obtain ⟨s, hs, _, _, h4, _⟩ := HR.out
      obtain rfl : s = t := by rw [ht] at hs; injection hs with hs; exact hs.symm
      exact h4
    have hnx : nextL (cont X) k = t.P.drop i ++ cont (X.drop (pg + 1)) := by rw [hC]; exact next_split hA hge
    have hz := (HB.out.block w.heap.size (by simp)).trans (heap_alloc_new w (.cells #[.int .u64 0, .int .u64 0] 42))
    have hbz := HB0.out.trans (HB.out.mono HB0.out.size)
    have c0 := h1.cells.1
    have c1 := h1.reads hX0 pg t ht
    have hpl0 := (List.getElem?_eq_some_iff.1 ht).1
    have hpl : (pg : Int) < (X.length : Int) := by omega
    have hP := (h1.pgs t (List.mem_of_getElem? ht)).1
    have ht8 := h1.fit.one t (List.mem_of_getElem? ht)
    unfold pv at c1
    by_cases hil : i < t.P.length
    · have hit := getD_at t.P i (0, 0) hil
      obtain ⟨q, eq⟩ : ∃ q, q = t.P.getD i (0, 0) := ⟨_, rfl⟩
      rw [← eq] at hit
      obtain ⟨c2, c3⟩ := hP.cells hit
      have il : (i : Int) < (t.P.length : Int) := by omega
      have HQ := Lib.hid (show (nextL (cont X) k).head? = some q by
        rw [hnx, List.drop_eq_getElem_cons hil]
        obtain ⟨_, e⟩ := List.getElem?_eq_some_iff.1 hit
        rw [e]; rfl)
      have HZ := Lib.hid (nx_fin hbz (Nat.le_refl _) q.1 q.2)
      obtain ⟨z0, z1, z2, z3, z4, z5⟩ := nx_cells hz q.1 q.2
      clear h1 ht hi hA hC hno hyes hge hnx hz hbz hP ht8 hil hit eq hpl0
      go_wp2_with fail
      exact bodyPost_ret (v := .tuple #[.agg #[.int .u64 q.1, .int .u64 q.2], .bool true]) (by simp [results, Try.results16, go_sem, z4, z5]) rfl ⟨q, true, rfl, .inl ⟨rfl, HQ.out⟩, HZ.out⟩
    · obtain rfl : i = t.P.length := by omega
      rw [List.drop_length, List.nil_append] at hnx
      have il : ¬ (t.P.length : Int) < (t.P.length : Int) := by omega
      obtain ⟨pu, epu⟩ : ∃ pu : Nat, pu = pg + 1 := ⟨_, rfl⟩
      have ipu : (pg : Int) + 1 = (pu : Int) := by omega
      have pg9 : pg < 4096 := by omega
      rw [← epu] at hnx
      by_cases hpu : pu < X.length
      · have hs := getD_at X pu default hpu
        obtain ⟨s, es⟩ : ∃ s, s = X.getD pu default := ⟨_, rfl⟩
        rw [← es] at hs
        have c4 := h1.reads hX0 pu s hs
        have hsP := (h1.pgs s (List.mem_of_getElem? hs)).1
        have hs8 := h1.fit.one s (List.mem_of_getElem? hs)
        have hit := getD_at s.P 0 (0, 0) (by omega)
        obtain ⟨q, eq⟩ : ∃ q, q = s.P.getD 0 (0, 0) := ⟨_, rfl⟩
        rw [← eq] at hit
        obtain ⟨c2, c3⟩ := hsP.cells hit
        simp only [Nat.zero_mul, Nat.zero_add] at c2 c3
        have ipl : (pu : Int) < (X.length : Int) := by omega
        have s0 : (0 : Int) < (s.P.length : Int) := by omega
        have HQ := Lib.hid (show (nextL (cont X) k).head? = some q by
          rw [hnx, List.drop_eq_getElem_cons hpu, cont_cons]
          obtain ⟨_, e⟩ := List.getElem?_eq_some_iff.1 hs
          rw [e]
          obtain ⟨h7, e7⟩ := List.getElem?_eq_some_iff.1 hit
          cases hsp : s.P with
          | nil => rw [hsp] at h7; simp at h7
          | cons a l => simp only [hsp, List.getElem_cons_zero] at e7; rw [e7]; rfl)
        have HZ := Lib.hid (nx_fin hbz (Nat.le_refl _) q.1 q.2)
        obtain ⟨z0, z1, z2, z3, z4, z5⟩ := nx_cells hz q.1 q.2
        unfold pv at c4
        clear h1 ht hi hA hC hno hyes hge hnx hz hbz hP ht8 hit eq hpl0 es hs hsP hs8 epu hpu
        go_wp2_with fail
        exact bodyPost_ret (v := .tuple #[.agg #[.int .u64 q.1, .int .u64 q.2], .bool true]) (by simp [results, Try.results16, go_sem, z4, z5]) rfl ⟨q, true, rfl, .inl ⟨rfl, HQ.out⟩, HZ.out⟩
      · have ipl : ¬ (pu : Int) < (X.length : Int) := by omega
        have HQ := Lib.hid (show nextL (cont X) k = [] by rw [hnx, List.drop_eq_nil_of_le (by omega)]; rfl)
        have HZ := Lib.hid (nx_fin hbz (Nat.le_refl _) 0 0)
        obtain ⟨z0, z1, z2, z3, z4, z5⟩ := nx_cells hz 0 0
        clear h1 ht hi hA hC hno hyes hge hnx hz hbz hP ht8 hpl0 epu hpu
        go_wp2_with fail
        exact bodyPost_ret (v := .tuple #[.agg #[.int .u64 0, .int .u64 0], .bool false]) (by simp [results, Try.results16, go_sem, z4, z5]) rfl ⟨(0, 0), false, rfl, .inr ⟨rfl, rfl, HQ.out⟩, HZ.out⟩
end Go.Proofs.Ythjcohaldjfniaa.Ix
