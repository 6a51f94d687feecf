/- index: the document's lay, walked. -/
import Derived.Test.YthjcohaldjfniaaR1
namespace Go.Proofs.Ythjcohaldjfniaa.Ix
open Go Go.RowKit
open Pq (Pg pv fq)
open It (fl)
def it45 (e : Int × Int) : Obj := .cells #[.int .u64 e.1, .int .u64 e.2] 45
/-- The list that lay makes, and the item's own block. -/
def Rf (w : World) (q : Int × Int) (D : IL) (v : Value) (W : World) : Prop :=
  W.ownsRow (w.heap.size + 1) 45 2 v D.length (fl D) ∧ Below w.heap.size w W ∧ W.heap[w.heap.size]? = some (it45 q) ∧ D.length ≤ 5000
theorem Rf.alloc {w W : World} {q : Int × Int} {D : IL} {v : Value} (h : Rf w q D v W) (o : Obj) : Rf w q D v (W.alloc o) :=
  ⟨World.ownsRow.alloc h.1 _, h.2.1.alloc h.2.1.size _, (heap_alloc_old W o (Array.getElem?_eq_some_iff.1 h.2.2.1).1).trans h.2.2.1, h.2.2.2⟩
theorem Rf.app {w W w3 : World} {q e : Int × Int} {D : IL} {v v' : Value} (h : Rf w q D v W) (ho : w3.ownsRow (w.heap.size + 1) 45 2 v' (D.length + 1) (fl D ++ fl [e])) (hg : W.grownBy w3 v.ownBlock) (hl : D.length < 5000) : Rf w q (D ++ [e]) v' w3 := by
  refine ⟨?_, grown_below h.2.1 hg (fun k e => by have := (World.ownsRow.lt h.1 k e).1; omega), (hg.block _ (Array.getElem?_eq_some_iff.1 h.2.2.1).1 (fun e => ?_)).trans h.2.2.1, by simp; omega⟩
  · rw [It.fl_app, List.length_append]; exact ho
  · have := (World.ownsRow.lt h.1 _ e.symm).1; omega
theorem Rf.base {w W : World} {q : Int × Int} {D : IL} {v : Value} (h : Rf w q D v W) : w.heap.size + 1 ≤ W.heap.size := (Array.getElem?_eq_some_iff.1 h.2.2.1).1
theorem news45 (W : World) (e : Int × Int) : ∀ j u, (fl [e])[j]? = some u → (W.alloc (.cells #[.int .u64 e.1, .int .u64 e.2] 45)).cell? ((⟨W.heap.size, 0, none⟩ : Addr).add j) = some u := fun j u hu => by
  rw [Go.WideShapes.add_plain, Nat.zero_add, World.cell?_alloc_new]
  simpa [fl] using hu
theorem del_take {L : IL} {i : Nat} {q : Int × Int} (hq : L[i]? = some q) (k : Int) : delL (L.take (i + 1)) k = delL (L.take i) k ++ (if q.1 = k then [] else [q]) := by
  obtain ⟨h5, e5⟩ := List.getElem?_eq_some_iff.1 hq
  rw [List.take_succ_eq_append_getElem h5, e5]
  unfold delL
  rw [List.filter_append]
  by_cases h : q.1 = k <;> simp [h]
theorem put_take_gt {L : IL} {i : Nat} {q : Int × Int} (hq : L[i]? = some q) {k u : Int} (h : k < q.1) : putL (L.take (i + 1)) k u = putL (L.take i) k u ++ [q] := by
  obtain ⟨h5, e5⟩ := List.getElem?_eq_some_iff.1 hq
  rw [List.take_succ_eq_append_getElem h5, e5]
  unfold putL
  have h1 : ¬ q.1 < k := by omega
  simp [List.filter_append, h, h1]
theorem put_of_del {L : IL} {k u : Int} (h : ∀ e ∈ L, e.1 ≤ k) : putL L k u = delL L k ++ [(k, u)] := by
  unfold putL delL
  rw [filter_no (L := L) (f := fun e => decide (k < e.1)) (fun e he => by have := h e he; simp; omega)]
  congr 1
  refine List.filter_congr (fun e he => ?_)
  have := h e he
  by_cases h1 : e.1 = k
  · simp [h1]
  · simp [h1]; omega
theorem next_gt {L : IL} (hs : Sorted L) {i : Nat} {y : Int × Int} (hy : L[i]? = some y) {k : Int} (h : ∃ e ∈ L.take i, k < e.1) : k < y.1 := by
  obtain ⟨e, he, hk⟩ := h
  obtain ⟨j, hj1, hj2, rfl⟩ := mem_take_get he
  have := sorted_get hs hj1 (List.getElem?_eq_some_iff.1 hy).1
  rw [show L.getD i (0, 0) = y by simp [hy]] at this
  omega
theorem put_len_le (L : IL) (i : Nat) (k u : Int) : (putL (L.take i) k u).length ≤ L.length + 1 := by
  have := putL_len (L.take i) k u
  have h2 : (L.take i).length ≤ L.length := by simp; omega
  omega
theorem del_le (L : IL) (k : Int) (i : Nat) : (delL (L.take i) k).length ≤ L.length := Nat.le_trans (delL_len _ _) (by simp; omega)
/-- Where lay has come to. -/
def LayI (w : World) (q : Int × Int) (L : IL) (i : Nat) (d : Bool) (v : Value) (W : World) : Prop :=
  (d = true ∧ Rf w q (putL (L.take i) q.1 q.2) v W ∧ ∃ e ∈ L.take i, q.1 < e.1) ∨ (d = false ∧ Rf w q (delL (L.take i) q.1) v W ∧ ∀ e ∈ L.take i, e.1 ≤ q.1)
theorem LayI.below {w W : World} {q : Int × Int} {L : IL} {i : Nat} {d : Bool} {v : Value} (h : LayI w q L i d v W) : Below w.heap.size w W := by
  rcases h with ⟨_, h, _⟩ | ⟨_, h, _⟩ <;> exact h.2.1
def RDid (w : World) (B : Nat) (F : Nat → Prop) (p : Nat) (M : IL) (w' : World) : Prop := ∃ v' F', RefAt w' B F' p v' M ∧ (∀ k, F' k → F k ∨ w.heap.size ≤ k) ∧ Turned F w w'
theorem rlay_fin {w W : World} {B p : Nat} {F : Nat → Prop} {v v' : Value} {L M : IL} {q : Int × Int} (h : RefAt w B F p v L) (hr : Rf w q M v' W) : RDid w B F p M (W.setCell ⟨p, 0, none⟩ v') := by
  have hW := h.below hr.2.1
  have hgs := grown_set W p 0 v'
  have hne : ∀ g, v'.ownBlock = some g → w.heap.size < g := fun g e => by have := (World.ownsRow.lt hr.1 g e).1; omega
  have hsz := hr.2.1.size
  have hszs := hgs.size
  have hbase := h.base
  refine ⟨v', (fun j => F j ∨ v'.ownBlock = some j), ⟨by rw [set_block hW.cell]; rfl, ?_, by omega, .inl h.fp, fun g e => .inr e, fun j hj => ?_, fun j hj => ?_⟩, fun j hj => hj.imp id (fun e => by have := hne j e; omega), ?_⟩
  · have ho := own_on hr.1 (fun g e => hgs.block g (World.ownsRow.lt hr.1 g e).2 (fun e2 => by injection e2 with e2; have := hne g e; have := h.lt; omega))
    exact ⟨ho.1, ho.2.imp id (fun ⟨g, cap, cur, e, e1, e2⟩ => ⟨g, cap, cur, e, by omega, e2⟩)⟩
  · rcases hj with hj | hj
    · have := h.hi j hj; omega
    · have := (World.ownsRow.lt hr.1 j hj).2; omega
  · rcases hj with hj | hj
    · exact h.low j hj
    · have := hne j hj; omega
  · exact (below_any (G := F) hr.2.1).trans (Turned.of_grown hgs (G := F) (fun k e => by injection e with e; subst e; exact h.fp)) (fun j hj => .inl hj)
set_option maxRecDepth 100000 in
set_option maxHeartbeats 2000000 in
theorem rlay_put {w : World} {B p : Nat} {F : Nat → Prop} {v : Value} {L : IL} (h : RefAt w B F p v L) (q : Int × Int) (hs : Sorted L) (hn : L.length ≤ 4500) :
    Calls Try.prog 27 #[.pointer (some ⟨p, 0, none⟩), .agg #[.int .u64 q.1, .int .u64 q.2], .bool true] w fun e w' => e = .returned (.tuple #[]) ∧ RDid w B F p (putL L q.1 q.2) w' := by
  obtain ⟨i0, hi0, hz0, hz1, hz2⟩ := info_parts info45
  obtain ⟨ao, cap, ev, hcap, hr⟩ := slice45 h.row rfl
  subst ev
  have hb0 := (Below.refl w.heap.size w).alloc (Nat.le_refl _) (it45 q)
  have c0 : (w.alloc (it45 q)).cell? ⟨p, 0, none⟩ = some (.slice ao L.length cap) := by simp [World.cell?, (h.below hb0).cell]
  have H := Lib.hid (And.intro h (And.intro hr hs))
  have H0 := Lib.hid (show LayI w q L 0 false (.slice none 0 0) (w.alloc (it45 q)) from .inr ⟨rfl, ⟨World.ownsRow_nil _ _ _ _, hb0, heap_alloc_new w _, by simp [delL]⟩, by simp⟩)
  obtain ⟨N, hN⟩ : ∃ N, L.length = N := ⟨_, rfl⟩
  rw [hN] at c0 hcap hn
  have HN := Lib.hid hN
  have qq : q = (q.1, q.2) := rfl
  unfold it45 at c0 H0
  clear h hr hs hb0 hN qq
  go_enter Try.func27, Try.ntmps27
  go_wp2_with fail
  go_loopw [6, 7, 17] (fun u6 u7 u17 wr => ∃ (i : Nat) (d : Bool), i ≤ N ∧ u17 = .int .i64 i ∧ u7 = .bool d ∧ Hid (LayI w q L i d u6 wr)) (fun _ _ u17 _ => N - (intOf u17).toNat)
  case atStart => exact ⟨0, false, Nat.zero_le _, rfl, rfl, H0⟩
  case round =>
    obtain ⟨i, d, hi, rfl, rfl, I⟩ := hrel
    have hbx : wr.heap[w.heap.size]? = some (.cells #[.int .u64 q.1, .int .u64 q.2] 45 (0, 0)) := by
      rcases I.out with ⟨_, h, _⟩ | ⟨_, h, _⟩ <;> exact h.2.2.1
    have b1 : wr.cell? ⟨w.heap.size, 0, none⟩ = some (.int .u64 q.1) := by simp [World.cell?, hbx]
    have b2 : wr.cell? ⟨w.heap.size, 1, none⟩ = some (.int .u64 q.2) := by simp [World.cell?, hbx]
    have hbz := (Array.getElem?_eq_some_iff.1 hbx).1
    clear hbx
    by_cases hlt : i < N
    · have hy := getD_at L i (0, 0) (by have := HN.out; omega)
      obtain ⟨y, ey⟩ : ∃ y, y = L.getD i (0, 0) := ⟨_, rfl⟩
      rw [← ey] at hy
      obtain ⟨g, rfl, gl, c1w, c2w⟩ := H.out.2.1 i y hy
      have c1 := (I.out.below.cell (p := ⟨g, i * 2, none⟩) gl).trans c1w
      have c2 := (I.out.below.cell (p := ⟨g, i * 2 + 1, none⟩) gl).trans c2w
      have ii : (i : Int) < (N : Int) := by omega
      have HY := Lib.hid hy
      clear hy ey c1w c2w
      cases d with
      | true =>
        obtain ⟨hRf, hex⟩ : Rf w q (putL (L.take i) q.1 q.2) u6 wr ∧ ∃ e ∈ L.take i, q.1 < e.1 := by
          rcases I.out with ⟨_, h, h2⟩ | ⟨h, _⟩
          · exact ⟨h, h2⟩
          · cases h
        have hky := next_gt H.out.2.2 HY.out hex
        have HX := Lib.hid hex
        have hpl := put_len_le L i q.1 q.2
        obtain ⟨D, eD⟩ : ∃ D, D = putL (L.take i) q.1 q.2 := ⟨_, rfl⟩
        rw [← eD] at hRf hpl
        have hDl : D.length ≤ 4501 := by have := HN.out; omega
        have ED := Lib.hid eD
        have hRf0 := hRf.alloc (.cells #[.int .u64 y.1, .int .u64 y.2] 45)
        have ARF := Lib.hid (hRf0.alloc (.cells #[.int .u64 y.1, .int .u64 y.2] 45))
        have AN := Lib.hid (show ∀ j u, (fl [y])[j]? = some u → ((wr.alloc (.cells #[.int .u64 y.1, .int .u64 y.2] 45)).alloc (.cells #[.int .u64 y.1, .int .u64 y.2] 45)).cell? ((⟨wr.heap.size + 1, 0, none⟩ : Addr).add j) = some u from by
          have := news45 (wr.alloc (.cells #[.int .u64 y.1, .int .u64 y.2] 45)) y
          rwa [show ((wr.alloc (.cells #[.int .u64 y.1, .int .u64 y.2] 45))).heap.size = wr.heap.size + 1 by simp] at this)
        have Ad := hRf0.2.2.2
        have hne : (y.1 != q.1) = true := by simp; omega
        have HKY := Lib.hid hky
        clear I hRf hRf0 hex hpl eD hky
        go_wp2_with (at_builtin; refine wpList_append_own_at _ rfl (.tmp 39) (.tmp 41) 28 rfl (w.heap.size + 1) 45 i0 _ 2 16 Try.underlying28 hi0 hz0 hz1 hz2 rfl (by decide) _ _ _ rfl ARF.out.1 ⟨wr.heap.size + 1, 0, none⟩ 1 1 (fl [y]) rfl rfl AN.out (It.fl_one _) (by unfold maxLen; omega) (by omega) ARF.out.base ?_; intro vA wA hoA hgA _ hatA; have AR := Lib.hid (And.intro (ARF.out.app hoA hgA (by omega)) (And.intro hgA hatA)); clear hoA hgA hatA)
        go_roundw
        case rel =>
          refine ⟨i + 1, true, by omega, by go_num, rfl, Lib.hid (.inl ⟨rfl, ?_, ?_⟩)⟩
          · rw [put_take_gt HY.out HKY.out, ← ED.out]; exact AR.out.1
          · obtain ⟨e, he, h2⟩ := HX.out
            exact ⟨e, List.mem_of_mem_take (i := i) (by rw [List.take_take, Nat.min_eq_left (by omega)]; exact he), h2⟩
        case measure => simp [intOf]; omega
      | false =>
        obtain ⟨hRf, hall⟩ : Rf w q (delL (L.take i) q.1) u6 wr ∧ ∀ e ∈ L.take i, e.1 ≤ q.1 := by
          rcases I.out with ⟨h, _⟩ | ⟨_, h, h2⟩
          · cases h
          · exact ⟨h, h2⟩
        have hpl := del_le L q.1 i
        obtain ⟨D, eD⟩ : ∃ D, D = delL (L.take i) q.1 := ⟨_, rfl⟩
        rw [← eD] at hRf hpl
        have hDl : D.length ≤ 4500 := by have := HN.out; omega
        have ED := Lib.hid eD
        have hRf0 := hRf.alloc (.cells #[.int .u64 y.1, .int .u64 y.2] 45)
        have HALL := Lib.hid hall
        by_cases hky : q.1 < y.1
        · have hne : (y.1 != q.1) = true := by simp; omega
          have HKY := Lib.hid hky
          have QRF := Lib.hid (hRf0.alloc (.cells #[.int .u64 q.1, .int .u64 q.2] 45))
          have QN := Lib.hid (show ∀ j u, (fl [q])[j]? = some u → ((wr.alloc (.cells #[.int .u64 y.1, .int .u64 y.2] 45)).alloc (.cells #[.int .u64 q.1, .int .u64 q.2] 45)).cell? ((⟨wr.heap.size + 1, 0, none⟩ : Addr).add j) = some u from by
            have := news45 (wr.alloc (.cells #[.int .u64 y.1, .int .u64 y.2] 45)) q
            rwa [show ((wr.alloc (.cells #[.int .u64 y.1, .int .u64 y.2] 45))).heap.size = wr.heap.size + 1 by simp] at this)
          have Qd := hRf0.2.2.2
          have hyb : (wr.alloc (.cells #[.int .u64 y.1, .int .u64 y.2] 45)).heap[wr.heap.size]? = some (.cells #[.int .u64 y.1, .int .u64 y.2] 45) := heap_alloc_new wr _
          have hrv := hRf.1
          have HYB := Lib.hid (And.intro hyb hrv)
          clear I hRf hRf0 hpl eD hall hyb hrv
          go_upto_region 9 with (at_builtin; refine wpList_append_own_at _ rfl (.tmp 30) (.tmp 32) 28 rfl (w.heap.size + 1) 45 i0 _ 2 16 Try.underlying28 hi0 hz0 hz1 hz2 rfl (by decide) _ _ _ rfl QRF.out.1 ⟨wr.heap.size + 1, 0, none⟩ 1 1 (fl [q]) rfl rfl QN.out (It.fl_one _) (by unfold maxLen; omega) (by omega) QRF.out.base ?_; intro vQ wQ hoQ hgQ _ hatQ; have QR := Lib.hid (And.intro (QRF.out.app hoQ hgQ (by omega)) (And.intro hgQ hatQ)); clear hoQ hgQ hatQ)
          have hq1 := QR.out.1
          have hyw : wQ.heap[wr.heap.size]? = some (.cells #[.int .u64 y.1, .int .u64 y.2] 45) := (QR.out.2.1.block wr.heap.size (by simp; omega) (fun e => by have := (World.ownsRow.lt HYB.out.2 _ e.symm).2; omega)).trans ((heap_alloc_old _ _ (by simp)).trans HYB.out.1)
          have y1 : wQ.cell? ⟨wr.heap.size, 0, none⟩ = some (.int .u64 y.1) := by simp [World.cell?, hyw]
          have y2 : wQ.cell? ⟨wr.heap.size, 1, none⟩ = some (.int .u64 y.2) := by simp [World.cell?, hyw]
          have hbq := hq1.2.2.1
          have e1 : wQ.cell? ⟨w.heap.size, 0, none⟩ = some (.int .u64 q.1) := by simp [World.cell?, hbq, it45]
          have ARF := Lib.hid (hq1.alloc (.cells #[.int .u64 y.1, .int .u64 y.2] 45))
          have AN := Lib.hid (show ∀ j u, (fl [y])[j]? = some u → (wQ.alloc (.cells #[.int .u64 y.1, .int .u64 y.2] 45)).cell? ((⟨wQ.heap.size, 0, none⟩ : Addr).add j) = some u from by
            have := news45 wQ y
            rwa [show (wQ).heap.size = wQ.heap.size by simp] at this)
          have Ad := hq1.2.2.2
          have hDl2 : (D ++ [q]).length ≤ 4501 := by simp; omega
          clear hq1 hyw hbq
          go_wp2_with (at_builtin; refine wpList_append_own_at _ rfl (.tmp 39) (.tmp 41) 28 rfl (w.heap.size + 1) 45 i0 _ 2 16 Try.underlying28 hi0 hz0 hz1 hz2 rfl (by decide) _ _ _ rfl ARF.out.1 ⟨wQ.heap.size, 0, none⟩ 1 1 (fl [y]) rfl rfl AN.out (It.fl_one _) (by unfold maxLen; omega) (by omega) ARF.out.base ?_; intro vA wA hoA hgA _ hatA; have AR := Lib.hid (And.intro (ARF.out.app hoA hgA (by omega)) (And.intro hgA hatA)); clear hoA hgA hatA)
          go_roundw
          case rel =>
            refine ⟨i + 1, true, by omega, by go_num, rfl, Lib.hid (.inl ⟨rfl, ?_, ?_⟩)⟩
            · rw [put_take_gt HY.out HKY.out, put_of_del HALL.out, ← ED.out]; exact AR.out.1
            · refine ⟨y, ?_, HKY.out⟩
              obtain ⟨h5, e5⟩ := List.getElem?_eq_some_iff.1 HY.out
              rw [List.take_succ_eq_append_getElem h5, e5]; simp
          case measure => simp [intOf]; omega
        · have hstep : ∀ e ∈ L.take (i + 1), e.1 ≤ q.1 := by
            obtain ⟨h5, e5⟩ := List.getElem?_eq_some_iff.1 HY.out
            rw [List.take_succ_eq_append_getElem h5, e5]
            intro e he
            rcases List.mem_append.1 he with he | he
            · exact hall e he
            · simp at he; subst he; omega
          have HSTEP := Lib.hid hstep
          by_cases hyq : y.1 = q.1
          · have hne : (y.1 != q.1) = false := by simp [hyq]
            have HYQ := Lib.hid hyq
            have HRF := Lib.hid hRf0
            clear I hRf hRf0 hpl eD hall hstep hyq
            go_wp2_with fail
            go_roundw
            case rel =>
              refine ⟨i + 1, false, by omega, by go_num, rfl, Lib.hid (.inr ⟨rfl, ?_, HSTEP.out⟩)⟩
              rw [del_take HY.out, if_pos HYQ.out, List.append_nil, ← ED.out]; exact HRF.out
            case measure => simp [intOf]; omega
          · have hne : (y.1 != q.1) = true := by simpa using hyq
            have HYQ := Lib.hid hyq
            have ARF := Lib.hid (hRf0.alloc (.cells #[.int .u64 y.1, .int .u64 y.2] 45))
            have AN := Lib.hid (show ∀ j u, (fl [y])[j]? = some u → ((wr.alloc (.cells #[.int .u64 y.1, .int .u64 y.2] 45)).alloc (.cells #[.int .u64 y.1, .int .u64 y.2] 45)).cell? ((⟨wr.heap.size + 1, 0, none⟩ : Addr).add j) = some u from by
              have := news45 (wr.alloc (.cells #[.int .u64 y.1, .int .u64 y.2] 45)) y
              rwa [show ((wr.alloc (.cells #[.int .u64 y.1, .int .u64 y.2] 45))).heap.size = wr.heap.size + 1 by simp] at this)
            have Ad := hRf0.2.2.2
            clear I hRf hRf0 hpl eD hall hstep hyq
            go_wp2_with (at_builtin; refine wpList_append_own_at _ rfl (.tmp 39) (.tmp 41) 28 rfl (w.heap.size + 1) 45 i0 _ 2 16 Try.underlying28 hi0 hz0 hz1 hz2 rfl (by decide) _ _ _ rfl ARF.out.1 ⟨wr.heap.size + 1, 0, none⟩ 1 1 (fl [y]) rfl rfl AN.out (It.fl_one _) (by unfold maxLen; omega) (by omega) ARF.out.base ?_; intro vA wA hoA hgA _ hatA; have AR := Lib.hid (And.intro (ARF.out.app hoA hgA (by omega)) (And.intro hgA hatA)); clear hoA hgA hatA)
            go_roundw
            case rel =>
              refine ⟨i + 1, false, by omega, by go_num, rfl, Lib.hid (.inr ⟨rfl, ?_, HSTEP.out⟩)⟩
              rw [del_take HY.out, if_neg HYQ.out, ← ED.out]; exact AR.out.1
            case measure => simp [intOf]; omega
    · obtain rfl : i = N := by omega
      have hLt : L.take i = L := List.take_of_length_le (by have := HN.out; omega)
      have I2 := I.out
      unfold LayI at I2
      rw [hLt] at I2
      have I2 := Lib.hid I2
      clear I hLt
      cases d with
      | true =>
        have hRf : Rf w q (putL L q.1 q.2) u6 wr := by
          rcases I2.out with ⟨_, h, _⟩ | ⟨h, _⟩
          · exact h
          · cases h
        obtain ⟨aoF, cF, evF, _⟩ := slice45 (L := putL L q.1 q.2) (show wr.ownsRow (w.heap.size + 1) 45 2 u6 (putL L q.1 q.2).length (fl (putL L q.1 q.2)) from hRf.1) rfl
        subst evF
        have hRA := H.out.1.below hRf.2.1
        have f0 := free1 (i := 0) hRA.cell
        have c9 : wr.cell? ⟨p, 0, none⟩ = some (.slice ao i cap) := by rw [← HN.out]; simp [World.cell?, hRA.cell]
        have HF := Lib.hid (rlay_fin H.out.1 hRf)
        clear hRf hRA I2
        go_wp2_with fail
        refine bodyPost_end (v := .tuple #[]) (results_none rfl _ _ _) rfl ?_
        exact ⟨rfl, HF.out⟩
      | false =>
        obtain ⟨hRf, hall⟩ : Rf w q (delL L q.1) u6 wr ∧ ∀ e ∈ L, e.1 ≤ q.1 := by
          rcases I2.out with ⟨h, _⟩ | ⟨_, h, h2⟩
          · cases h
          · exact ⟨h, h2⟩
        have hpm := put_of_del (u := q.2) hall
        have hpl := delL_len L q.1
        obtain ⟨D, eD⟩ : ∃ D, D = delL L q.1 := ⟨_, rfl⟩
        rw [← eD] at hRf hpl hpm
        have hDl : D.length ≤ 4500 := by have := HN.out; omega
        have QRF := Lib.hid (hRf.alloc (.cells #[.int .u64 q.1, .int .u64 q.2] 45))
        have QN := Lib.hid (show ∀ j u, (fl [q])[j]? = some u → (wr.alloc (.cells #[.int .u64 q.1, .int .u64 q.2] 45)).cell? ((⟨wr.heap.size, 0, none⟩ : Addr).add j) = some u from by
          have := news45 wr q
          rwa [show (wr).heap.size = wr.heap.size by simp] at this)
        have Qd := hRf.2.2.2
        have HPM := Lib.hid hpm
        clear I2 hRf hall hpm hpl eD
        go_upto_region 14 with (at_builtin; refine wpList_append_own_at _ rfl (.tmp 46) (.tmp 48) 28 rfl (w.heap.size + 1) 45 i0 _ 2 16 Try.underlying28 hi0 hz0 hz1 hz2 rfl (by decide) _ _ _ rfl QRF.out.1 ⟨wr.heap.size, 0, none⟩ 1 1 (fl [q]) rfl rfl QN.out (It.fl_one _) (by unfold maxLen; omega) (by omega) QRF.out.base ?_; intro vQ wQ hoQ hgQ _ hatQ; have QR := Lib.hid (And.intro (QRF.out.app hoQ hgQ (by omega)) (And.intro hgQ hatQ)); clear hoQ hgQ hatQ)
        have hR2 : Rf w q (putL L q.1 q.2) vQ wQ := by rw [HPM.out]; exact QR.out.1
        obtain ⟨aoF, cF, evF, _⟩ := slice45 (L := putL L q.1 q.2) (show wQ.ownsRow (w.heap.size + 1) 45 2 vQ (putL L q.1 q.2).length (fl (putL L q.1 q.2)) from hR2.1) rfl
        subst evF
        have hRA := H.out.1.below hR2.2.1
        have f0 := free1 (i := 0) hRA.cell
        have c9 : wQ.cell? ⟨p, 0, none⟩ = some (.slice ao i cap) := by rw [← HN.out]; simp [World.cell?, hRA.cell]
        have HF := Lib.hid (rlay_fin H.out.1 hR2)
        clear hR2 hRA
        go_wp2_with fail
        refine bodyPost_end (v := .tuple #[]) (results_none rfl _ _ _) rfl ?_
        exact ⟨rfl, HF.out⟩
end Go.Proofs.Ythjcohaldjfniaa.Ix
