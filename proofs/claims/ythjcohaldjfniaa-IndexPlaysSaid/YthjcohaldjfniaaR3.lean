/- index: the document's Put and Delete, walked. -/
import Derived.Test.YthjcohaldjfniaaR2
namespace Go.Proofs.Ythjcohaldjfniaa.Ix
open Go Go.RowKit
open Pq (Pg pv fq)
open It (fl)
set_option maxRecDepth 100000 in
set_option maxHeartbeats 2000000 in
theorem rlay_del {w : World} {B p : Nat} {F : Nat → Prop} {v : Value} {L : IL} (h : RefAt w B F p v L) (q : Int × Int) (hn : L.length ≤ 4500) :
    Calls Try.prog 27 #[.pointer (some ⟨p, 0, none⟩), .agg #[.int .u64 q.1, .int .u64 q.2], .bool false] w fun e w' => e = .returned (.tuple #[]) ∧ RDid w B F p (delL L q.1) w' := by
  obtain ⟨i0, hi0, hz0, hz1, hz2⟩ := info_parts info45
  obtain ⟨ao, cap, ev, hcap, hr⟩ := slice45 h.row rfl
  subst ev
  have hb0 := (Below.refl w.heap.size w).alloc (Nat.le_refl _) (it45 q)
  have c0 : (w.alloc (it45 q)).cell? ⟨p, 0, none⟩ = some (.slice ao L.length cap) := by simp [World.cell?, (h.below hb0).cell]
  have H := Lib.hid (And.intro h hr)
  have H0 := Lib.hid (show Rf w q (delL (L.take 0) q.1) (.slice none 0 0) (w.alloc (it45 q)) from ⟨World.ownsRow_nil _ _ _ _, hb0, heap_alloc_new w _, by simp [delL]⟩)
  obtain ⟨N, hN⟩ : ∃ N, L.length = N := ⟨_, rfl⟩
  rw [hN] at c0 hcap hn
  have HN := Lib.hid hN
  unfold it45 at c0 H0
  clear h hr hb0 hN
  go_enter Try.func27, Try.ntmps27
  go_wp2_with fail
  go_loopw [6, 7, 17] (fun u6 u7 u17 wr => ∃ i : Nat, i ≤ N ∧ u17 = .int .i64 i ∧ u7 = .bool true ∧ Hid (Rf w q (delL (L.take i) q.1) u6 wr)) (fun _ _ u17 _ => N - (intOf u17).toNat)
  case atStart => exact ⟨0, Nat.zero_le _, rfl, rfl, H0⟩
  case round =>
    obtain ⟨i, hi, rfl, rfl, I⟩ := hrel
    have hbx := I.out.2.2.1
    unfold it45 at hbx
    have b1 : wr.cell? ⟨w.heap.size, 0, none⟩ = some (.int .u64 q.1) := by simp [World.cell?, hbx]
    have hbz := (Array.getElem?_eq_some_iff.1 hbx).1
    clear hbx
    by_cases hlt : i < N
    · have hy := getD_at L i (0, 0) (by have := HN.out; omega)
      obtain ⟨y, ey⟩ : ∃ y, y = L.getD i (0, 0) := ⟨_, rfl⟩
      rw [← ey] at hy
      obtain ⟨g, rfl, gl, c1w, c2w⟩ := H.out.2 i y hy
      have c1 := (I.out.2.1.cell (p := ⟨g, i * 2, none⟩) gl).trans c1w
      have c2 := (I.out.2.1.cell (p := ⟨g, i * 2 + 1, none⟩) gl).trans c2w
      have ii : (i : Int) < (N : Int) := by omega
      have HY := Lib.hid hy
      clear hy ey c1w c2w
      have hRf := I.out
      have hpl := del_le L q.1 i
      obtain ⟨D, eD⟩ : ∃ D, D = delL (L.take i) q.1 := ⟨_, rfl⟩
      rw [← eD] at hRf hpl
      have hDl : D.length ≤ 4500 := by have := HN.out; omega
      have ED := Lib.hid eD
      have hRf0 := hRf.alloc (.cells #[.int .u64 y.1, .int .u64 y.2] 45)
      by_cases hyq : y.1 = q.1
      · have hne : (y.1 != q.1) = false := by simp [hyq]
        have HYQ := Lib.hid hyq
        have HRF := Lib.hid hRf0
        clear I hRf hRf0 hpl eD hyq
        go_wp2_with fail
        go_roundw
        case rel =>
          refine ⟨i + 1, by omega, by go_num, rfl, Lib.hid ?_⟩
          rw [del_take HY.out, if_pos HYQ.out, List.append_nil, ← ED.out]; exact HRF.out
        case measure => simp [intOf]; omega
      · have hne : (y.1 != q.1) = true := by simpa using hyq
        have HYQ := Lib.hid hyq
        have ARF := Lib.hid (hRf0.alloc (.cells #[.int .u64 y.1, .int .u64 y.2] 45))
        have AN := Lib.hid (show ∀ j u, (fl [y])[j]? = some u → ((wr.alloc (.cells #[.int .u64 y.1, .int .u64 y.2] 45)).alloc (.cells #[.int .u64 y.1, .int .u64 y.2] 45)).cell? ((⟨wr.heap.size + 1, 0, none⟩ : Addr).add j) = some u from by
          have := news45 (wr.alloc (.cells #[.int .u64 y.1, .int .u64 y.2] 45)) y
          rwa [show ((wr.alloc (.cells #[.int .u64 y.1, .int .u64 y.2] 45))).heap.size = wr.heap.size + 1 by simp] at this)
        have Ad := hRf0.2.2.2
        clear I hRf hRf0 hpl eD hyq
        go_wp2_with (at_builtin; refine wpList_append_own_at _ rfl (.tmp 39) (.tmp 41) 28 rfl (w.heap.size + 1) 45 i0 _ 2 16 Try.underlying28 hi0 hz0 hz1 hz2 rfl (by decide) _ _ _ rfl ARF.out.1 ⟨wr.heap.size + 1, 0, none⟩ 1 1 (fl [y]) rfl rfl AN.out (It.fl_one _) (by unfold maxLen; omega) (by omega) ARF.out.base ?_; intro vA wA hoA hgA _ hatA; have AR := Lib.hid (And.intro (ARF.out.app hoA hgA (by omega)) (And.intro hgA hatA)); clear hoA hgA hatA)
        go_roundw
        case rel =>
          refine ⟨i + 1, by omega, by go_num, rfl, Lib.hid ?_⟩
          rw [del_take HY.out, if_neg HYQ.out, ← ED.out]; exact AR.out.1
        case measure => simp [intOf]; omega
    · obtain rfl : i = N := by omega
      have hLt : L.take i = L := List.take_of_length_le (by have := HN.out; omega)
      have hRf := I.out
      rw [hLt] at hRf
      clear I hLt
      obtain ⟨aoF, cF, evF, _⟩ := slice45 (L := delL L q.1) (show wr.ownsRow (w.heap.size + 1) 45 2 u6 (delL L q.1).length (fl (delL L q.1)) from hRf.1) rfl
      subst evF
      have hRA := H.out.1.below hRf.2.1
      have f0 := free1 (i := 0) hRA.cell
      have c9 : wr.cell? ⟨p, 0, none⟩ = some (.slice ao i cap) := by rw [← HN.out]; simp [World.cell?, hRA.cell]
      have HF := Lib.hid (rlay_fin H.out.1 hRf)
      clear hRf hRA
      go_wp2_with fail
      refine bodyPost_end (v := .tuple #[]) (results_none rfl _ _ _) rfl ?_
      exact ⟨rfl, HF.out⟩
def RPutE (w : World) (B : Nat) (F : Nat → Prop) (p : Nat) (M : IL) (n : Int) (e : Ending) (w' : World) : Prop := e = .returned (.int .i64 n) ∧ RDid w B F p M w'
theorem RefAt.did {w : World} {B p : Nat} {F : Nat → Prop} {v : Value} {L : IL} (h : RefAt w B F p v L) : RDid w B F p L w := ⟨v, F, h, fun _ h => .inl h, Turned.refl _ _⟩
set_option maxRecDepth 100000 in
theorem rput_ok {w : World} {B p : Nat} {F : Nat → Prop} {v : Value} {L : IL} (h : RefAt w B F p v L) (k u : Int) (hs : Sorted L) (hn : L.length ≤ 4096) (h0 : hasL L k ∨ L.length < 4096) :
    Calls Try.prog 11 #[.pointer (some ⟨p, 0, none⟩), .int .u64 k, .int .u64 u] w (RPutE w B F p (putL L k u) 0) := by
  have HG := Lib.hid (rget_any h k (by omega))
  have HL := Lib.hid (rlay_put h (k, u) hs (by omega))
  obtain ⟨ao, cap, ev, hcap, hr⟩ := slice45 h.row rfl
  subst ev
  have c0 : w.cell? ⟨p, 0, none⟩ = some (.slice ao L.length cap) := by simp [World.cell?, h.cell]
  clear h hr
  by_cases hh : hasL L k
  · have HH := Lib.hid hh
    clear h0 hh
    go_enter Try.func11, Try.ntmps11
    go_wp2_with fail
    refine HG.out.mono ?_
    rintro e _ ⟨⟨x, ok, rfl, h4⟩, rfl⟩
    obtain rfl : ok = true := by
      rcases h4 with ⟨h, _⟩ | ⟨_, _, h⟩
      · exact h
      · exact absurd HH.out h
    clear h4
    go_wp2_with fail
    refine HL.out.mono ?_
    rintro e w2 ⟨rfl, hd⟩
    have HD := Lib.hid hd
    clear hd
    go_wp2_with fail
    go_ret
    exact ⟨rfl, HD.out⟩
  · have HH := Lib.hid hh
    have hl : L.length < 4096 := h0.resolve_left hh
    have hl2 : ¬ (4096 : Int) ≤ (L.length : Int) := by omega
    clear h0 hh
    go_enter Try.func11, Try.ntmps11
    go_wp2_with fail
    refine HG.out.mono ?_
    rintro e _ ⟨⟨x, ok, rfl, h4⟩, rfl⟩
    obtain rfl : ok = false := by
      rcases h4 with ⟨_, h⟩ | ⟨h, _⟩
      · exact absurd ⟨_, h, rfl⟩ HH.out
      · exact h
    clear h4
    go_wp2_with fail
    refine HL.out.mono ?_
    rintro e w2 ⟨rfl, hd⟩
    have HD := Lib.hid hd
    clear hd
    go_wp2_with fail
    go_ret
    exact ⟨rfl, HD.out⟩
set_option maxRecDepth 100000 in
theorem rdel_ok {w : World} {B p : Nat} {F : Nat → Prop} {v : Value} {L : IL} (h : RefAt w B F p v L) (k : Int) (hn : L.length ≤ 4096) (hh : hasL L k) :
    Calls Try.prog 13 #[.pointer (some ⟨p, 0, none⟩), .int .u64 k] w (RPutE w B F p (delL L k) 0) := by
  have HG := Lib.hid (rget_any h k (by omega))
  have HL := Lib.hid (rlay_del h (k, 0) (by omega))
  have HH := Lib.hid hh
  clear h hh
  go_enter Try.func13, Try.ntmps13
  go_wp2_with fail
  refine HG.out.mono ?_
  rintro e _ ⟨⟨x, ok, rfl, h4⟩, rfl⟩
  obtain rfl : ok = true := by
    rcases h4 with ⟨h, _⟩ | ⟨_, _, h⟩
    · exact h
    · exact absurd HH.out h
  clear h4
  go_wp2_with fail
  refine HL.out.mono ?_
  rintro e w2 ⟨rfl, hd⟩
  have HD := Lib.hid hd
  clear hd
  go_wp2_with fail
  go_ret
  exact ⟨rfl, HD.out⟩
set_option maxRecDepth 100000 in
theorem rdel_no {w : World} {B p : Nat} {F : Nat → Prop} {v : Value} {L : IL} (h : RefAt w B F p v L) (k : Int) (hn : L.length ≤ 4096) (hh : ¬ hasL L k) :
    Calls Try.prog 13 #[.pointer (some ⟨p, 0, none⟩), .int .u64 k] w (RPutE w B F p L 6) := by
  have HG := Lib.hid (rget_any h k (by omega))
  have HH := Lib.hid hh
  have HD := Lib.hid h.did
  clear h hh
  go_enter Try.func13, Try.ntmps13
  go_wp2_with fail
  refine HG.out.mono ?_
  rintro e _ ⟨⟨x, ok, rfl, h4⟩, rfl⟩
  obtain rfl : ok = false := by
    rcases h4 with ⟨_, h⟩ | ⟨h, _⟩
    · exact absurd ⟨_, h, rfl⟩ HH.out
    · exact h
  clear h4
  go_wp2_with fail
  go_ret
  exact ⟨rfl, HD.out⟩
end Go.Proofs.Ythjcohaldjfniaa.Ix
