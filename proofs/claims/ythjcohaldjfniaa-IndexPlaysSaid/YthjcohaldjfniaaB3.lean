/- index: find, walked. -/
import Derived.Test.YthjcohaldjfniaaB2
namespace Go.Proofs.Ythjcohaldjfniaa.Ix
open Go Go.RowKit
open Pq (Pg pv fq)
open It (fl)
theorem find_nil (k : Int) (w : World) : Calls Try.prog 24 #[.pointer none, .int .u64 k] w fun e w' => e = .returned (.tuple #[.int .i64 0, .int .i64 0, .bool false]) ∧ Below w.heap.size w w' := by
  go_enter Try.func24, Try.ntmps24
  go_wp2_with (go_at_call 18; refine (len_nil _).mono ?_; rintro e _ ⟨rfl, rfl⟩)
  exact bodyPost_ret (v := .tuple #[.int .i64 0, .int .i64 0, .bool false]) (by simp [results, Try.results24, go_sem]) rfl ⟨rfl, ((Below.refl _ _).alloc (Nat.le_refl _) _).alloc (by simp) _⟩
theorem find_none {w : World} {B p : Nat} {F : Nat → Prop} {v : Value} (h : IdxAt w B F p v []) (k : Int) : Calls Try.prog 24 #[.pointer (some ⟨p, 0, none⟩), .int .u64 k] w fun e w' => e = .returned (.tuple #[.int .i64 0, .int .i64 0, .bool false]) ∧ Below w.heap.size w w' := by
  have hb : Below w.heap.size w ((w.alloc (.cells #[.pointer (some ⟨p, 0, none⟩)] 25)).alloc (.cells #[.int .u64 k] 23)) := ((Below.refl _ _).alloc (Nat.le_refl _) _).alloc (by simp) _
  have HL := Lib.hid (len_any (h.below hb))
  clear hb
  go_enter Try.func24, Try.ntmps24
  go_wp2_with (go_at_call 18; refine HL.out.mono ?_; rintro e _ ⟨rfl, rfl⟩; simp only [cont, List.flatMap_nil, List.length_nil])
  exact bodyPost_ret (v := .tuple #[.int .i64 0, .int .i64 0, .bool false]) (by simp [results, Try.results24, go_sem]) rfl ⟨rfl, ((Below.refl _ _).alloc (Nat.le_refl _) _).alloc (by simp) _⟩
def FindE (X : List Pg) (k : Int) (w : World) (e : Ending) (w' : World) : Prop :=
  ∃ (pg i : Nat) (ok : Bool), e = .returned (.tuple #[.int .i64 pg, .int .i64 i, .bool ok]) ∧ FindR X k pg i ok ∧ Below w.heap.size w w'
set_option maxRecDepth 100000 in
set_option maxHeartbeats 1000000 in
theorem find_any {w : World} {B p : Nat} {F : Nat → Prop} {v : Value} {X : List Pg} (h : IdxAt w B F p v X) (h0 : 0 < X.length) (hn : X.length ≤ 1000000) (k : Int) : Calls Try.prog 24 #[.pointer (some ⟨p, 0, none⟩), .int .u64 k] w (FindE X k w) := by
  have hb : Below w.heap.size w ((w.alloc (.cells #[.pointer (some ⟨p, 0, none⟩)] 25)).alloc (.cells #[.int .u64 k] 23)) := ((Below.refl _ _).alloc (Nat.le_refl _) _).alloc (by simp) _
  have h2 := h.below hb
  have HL := Lib.hid (len_any h2)
  have hc := cont_len h2.fit
  have c0 : (((cont X).length : Int) == 0) = false := beq_eq_false_iff_ne.2 (by omega)
  have e1 : (w.alloc (.cells #[.pointer (some ⟨p, 0, none⟩)] 25)).heap.size = w.heap.size + 1 := by simp
  have q1 : ((w.alloc (.cells #[.pointer (some ⟨p, 0, none⟩)] 25)).alloc (.cells #[.int .u64 k] 23)).cell? ⟨w.heap.size, 0, none⟩ = some (.pointer (some ⟨p, 0, none⟩)) := by
    refine ((World.grownBy_alloc (w.alloc _) _ none).cell_far ⟨w.heap.size, 0, none⟩ (by simp) (by simp)).trans ?_
    rw [World.cell?_alloc_new]; rfl
  have q2 : ((w.alloc (.cells #[.pointer (some ⟨p, 0, none⟩)] 25)).alloc (.cells #[.int .u64 k] 23)).cell? ⟨w.heap.size + 1, 0, none⟩ = some (.int .u64 k) := by
    have := World.cell?_alloc_new (w.alloc (.cells #[.pointer (some ⟨p, 0, none⟩)] 25)) #[.int .u64 k] 23 0
    rw [e1] at this
    rw [this]; rfl
  have HS := Lib.hid (search_any 32 _ _ X.length _ _ (fun args w => by kernel_rfl) (by omega) (above_tells h2 k w.heap.size (w.heap.size + 1) q1 q2))
  obtain ⟨ao, cap, rfl, hnc, hcell⟩ := h2.slice
  obtain ⟨g, rfl, hcell⟩ := hcell h0
  have g0 := h2.cells.1
  have H := Lib.hid h
  have HB := Lib.hid hb
  have HC := Lib.hid hc
  have Q := Lib.hid (And.intro q1 q2)
  clear h h2 hb hc hcell q1 q2
  go_enter Try.func24, Try.ntmps24
  go_upto_region 4 with (first
    | (go_at_call 18; refine HL.out.mono ?_; rintro e _ ⟨rfl, rfl⟩)
    | (go_at_call 31; refine HS.out.mono ?_; rintro e w3 ⟨ab, rfl, hab, a1, a2, hb3⟩; have HA := Lib.hid (And.intro a1 (And.intro a2 (HB.out.trans (hb3.mono HB.out.size)))); have HB3 := Lib.hid hb3; clear a1 a2 hb3))
  obtain ⟨pg, hpg⟩ : ∃ pg : Nat, pg = ab - 1 := ⟨_, rfl⟩
  have hpl : pg < X.length := by omega
  have ht := getD_at X pg default hpl
  obtain ⟨t, et⟩ : ∃ t, t = X.getD pg default := ⟨_, rfl⟩
  rw [← et] at ht
  have hb3 := HB3.out
  obtain ⟨q1, q2⟩ := Q.out
  have h3 := H.out.below HA.out.2.2
  have hP := h3.pgs t (List.mem_of_getElem? ht)
  have hl := h3.fit.one t (List.mem_of_getElem? ht)
  have HF := Lib.hid (fun i ok => find_math h3.fit k ab h0 hab (HA.out.1.imp id (fun h => by simpa using h)) (HA.out.2.1.imp id (fun h => by simpa using h)) i ok t (by rw [← hpg]; exact ht))
  have b1 : w3.cell? ⟨w.heap.size, 0, none⟩ = some (.pointer (some ⟨p, 0, none⟩)) := (hb3.cell (p := ⟨w.heap.size, 0, none⟩) (by simp; omega)).trans q1
  have b2 : w3.cell? ⟨w.heap.size + 1, 0, none⟩ = some (.int .u64 k) := (hb3.cell (p := ⟨w.heap.size + 1, 0, none⟩) (by simp)).trans q2
  have b3 := h3.cells.1
  have b4 : w3.cell? ⟨g, pg, none⟩ = some (pv t) := by
    obtain ⟨_, _, e, _, hc⟩ := h3.slice
    obtain ⟨_, e2, hc⟩ := hc h0
    simp only [Value.slice.injEq] at e
    obtain ⟨rfl, _, _⟩ := e
    simp only [Option.some.injEq, Addr.mk.injEq, and_true] at e2
    subst e2
    exact hc pg t ht
  have HI := Lib.hid (bin_any t k w3.drew hP.1 (by omega))
  have ip : (pg : Int) < (X.length : Int) := by omega
  have HT := Lib.hid ht
  clear ht h3 hP et hl hb3 q1 q2 g0
  go_upto_region 5 with fail
  have hm : (if (ab : Int) - 1 < 0 then (0 : Int) else (ab : Int) - 1) = (pg : Int) := by split <;> omega
  rw [hm]
  have hz1 : w.heap.size < w3.heap.size := World.block_lt_of_cell? w3 _ b1
  have hz2 : w.heap.size + 1 < w3.heap.size := World.block_lt_of_cell? w3 _ b2
  have hz3 : p < w3.heap.size := World.block_lt_of_cell? w3 _ b3
  have hz4 : g < w3.heap.size := World.block_lt_of_cell? w3 _ b4
  subst hpg
  clear hm hab
  go_region_held3 (fun w' => w'.cell? ⟨w.heap.size, 0, none⟩ = some (.pointer (some ⟨p, 0, none⟩)) ∧ w'.cell? ⟨w.heap.size + 1, 0, none⟩ = some (.int .u64 k) ∧ w'.cell? ⟨p, 0, none⟩ = some (.slice (some ⟨g, 0, none⟩) X.length cap) ∧ w'.cell? ⟨g, ab - 1, none⟩ = some (pv t))
    (first | exact ⟨b1, b2, b3, b4⟩ | exact ⟨k1, k2, k3, k4⟩)
    ((go_at_call 33; refine HI.out.mono ?_; rintro e w4 ⟨i, ok, rfl, hB, hb⟩; have k1 := (hb.cell (p := ⟨w.heap.size, 0, none⟩) hz1).trans b1; have k2 := (hb.cell (p := ⟨w.heap.size + 1, 0, none⟩) hz2).trans b2; have k3 := (hb.cell (p := ⟨p, 0, none⟩) hz3).trans b3; have k4 := (hb.cell (p := ⟨g, ab - 1, none⟩) hz4).trans b4; have H9 := Lib.hid (And.intro hB hb); clear hB hb))
  go_wp2_with fail
  exact bodyPost_ret (v := .tuple #[.int .i64 (ab - 1 : Nat), .int .i64 i, .bool ok]) (by simp [results, Try.results24, go_sem]) rfl ⟨ab - 1, i, ok, rfl, HF.out i ok H9.out.1, HA.out.2.2.trans ((show Below w3.heap.size w3 w4 from ⟨H9.out.2.os, H9.out.2.tape, H9.out.2.output, H9.out.2.size, H9.out.2.block⟩).mono HA.out.2.2.size)⟩
end Go.Proofs.Ythjcohaldjfniaa.Ix
