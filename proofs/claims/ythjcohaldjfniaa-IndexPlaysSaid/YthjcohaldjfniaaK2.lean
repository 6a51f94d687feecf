/- index: the document's example, walked. -/
import Derived.Test.YthjcohaldjfniaaK0
namespace Go.Proofs.Ythjcohaldjfniaa.Ix
open Go Go.RowKit
open Pq (Pg pv fq)
open It (fl)
theorem pages_one {X : List Pg} (hf : Fit X) (h : (cont X).length = 3) : X.length = 1 := by
  have h1 := cont_len hf
  rcases Nat.lt_or_ge 1 X.length with hl | hl
  · exfalso
    have h2 := hf.two hl
    match X, hl, h, h2 with
    | s :: t :: Y, _, h, h2 =>
      rw [cont_cons, cont_cons, List.length_append, List.length_append] at h
      have := h2 s (by simp)
      have := h2 t (by simp)
      omega
  · cases X with
    | nil => simp [cont] at h
    | cons s Y => simp at hl ⊢; exact hl
theorem ex1 : putL [] 9 1 = [(9, 1)] := by decide
theorem ex2 : putL [(9, 1)] 5 2 = [(5, 2), (9, 1)] := by decide
theorem ex3 : putL [(5, 2), (9, 1)] 7 3 = [(5, 2), (7, 3), (9, 1)] := by decide
theorem ex4 : nextL [(5, 2), (7, 3), (9, 1)] 6 = [(7, 3), (9, 1)] := by decide
theorem ex5 : rangeL [(5, 2), (7, 3), (9, 1)] 5 8 = [(5, 2), (7, 3)] := by decide
abbrev L3 : IL := [(5, 2), (7, 3), (9, 1)]
theorem ex_next {w wr : World} {p : Nat} (h : St w p L3 wr) : Calls Try.prog 16 #[.pointer (some ⟨p, 0, none⟩), .int .u64 6] wr fun e w' => e = .returned (.tuple #[.agg #[.int .u64 7, .int .u64 3], .bool true]) ∧ St w p L3 w' := by
  refine (st_next h 6 (by decide)).mono ?_
  rintro e w' ⟨⟨t, ok, rfl, h4⟩, hs⟩
  rw [ex4] at h4
  rcases h4 with ⟨rfl, h5⟩ | ⟨_, _, h5⟩
  · simp at h5
    subst h5
    exact ⟨rfl, hs⟩
  · cases h5
theorem ex_range {w wr : World} {p : Nat} (h : St w p L3 wr) : Calls Try.prog 21 #[.pointer (some ⟨p, 0, none⟩), .int .u64 5, .int .u64 8] wr fun e w' => (∃ ao cap, e = .returned (.slice ao 2 cap)) ∧ St w p L3 w' := by
  refine (st_range h 5 8 (by decide)).mono ?_
  rintro e w' ⟨⟨ao, cap, rfl, _⟩, hs⟩
  rw [ex5]
  exact ⟨⟨ao, cap, rfl⟩, hs⟩
theorem ex_pages {w wr : World} {p : Nat} (h : St w p L3 wr) : Calls Try.prog 20 #[.pointer (some ⟨p, 0, none⟩)] wr fun e w' => (∃ ao cap, e = .returned (.slice ao 1 cap)) ∧ St w p L3 w' := by
  refine (st_pages h (by decide)).mono ?_
  rintro e w' ⟨⟨X, hf, hc, ao, cap, Y, rfl, _⟩, hs⟩
  rw [pages_one hf (by rw [hc]; rfl)]
  exact ⟨⟨ao, cap, rfl⟩, hs⟩
set_option maxRecDepth 100000 in
set_option maxHeartbeats 1000000 in
theorem awake_any (w : World) : Calls Try.prog 8 #[] w fun e w' => e = .returned (.bool true) ∧ Below w.heap.size w w' := by
  go_enter Try.func8, Try.ntmps8
  go_upto_region 4 with (first
    | (go_at_call 9; refine (st_new w).mono ?_; rintro e w1 ⟨rfl, h1⟩; have H1 := Lib.hid h1; clear h1)
    | (go_at_call_of 10 (Value.int .u64 7); refine (st_put H3.out 7 3 (by decide)).mono ?_; rintro e w4 ⟨rfl, h4⟩; have H4 := Lib.hid h4; clear h4)
    | (go_at_call_of 10 (Value.int .u64 5); refine (st_put H2.out 5 2 (by decide)).mono ?_; rintro e w3 ⟨rfl, h3⟩; have H3 := Lib.hid h3; clear h3)
    | (go_at_call_of 10 (Value.int .u64 9); refine (st_put H1.out 9 1 (by decide)).mono ?_; rintro e w2 ⟨rfl, h2⟩; have H2 := Lib.hid h2; clear h2))
  have h4 := H4.out
  rw [ex1, ex2, ex3] at h4
  have H5 := Lib.hid h4
  have heq := run_eql42 7 3 7 3
  clear h4
  go_upto_region 5 with (go_at_call 16; refine (ex_next H5.out).mono ?_; rintro e w5 ⟨rfl, h6⟩; have H6 := Lib.hid h6; clear h6)
  have H7 := Lib.hid (H6.out.below ((Below.refl w5.heap.size w5).alloc (Nat.le_refl _) (.cells #[.int .u64 7, .int .u64 3] 42)))
  go_wp2_with (first
    | (go_at_call 21; refine (ex_range H7.out).mono ?_; rintro e w6 ⟨⟨ao, cap, rfl⟩, h8⟩; have H8 := Lib.hid h8; clear h8)
    | (go_at_call 20; refine (ex_pages H8.out).mono ?_; rintro e w7 ⟨⟨ao2, cap2, rfl⟩, h9⟩; have H9 := Lib.hid h9; clear h9))
  go_ret
  exact ⟨rfl, H9.out.ahead⟩
end Go.Proofs.Ythjcohaldjfniaa.Ix
