/- session: the laws' awake, walked. -/
import Derived.Test.YteikhbfdegmffaaA7
namespace Go.Proofs.Yteikhbfdegmffaa.Se
open Go Go.RowKit
def a5 : An := ⟨0, 5, [], []⟩
theorem a5_at (w : World) : AnAt w a5 Pl.nil := ⟨RdC.nil _ _, RdC.nil _ _, fun _ => ⟨rfl, rfl⟩, fun _ => ⟨rfl, rfl⟩, ⟨by decide, by decide, fun t ht => by simp [a5] at ht⟩⟩
theorem TabS.did_low {w0 w w' : World} {b : Nat} {P : Nat → Prop} {K : Nat → Sm} (_h : TabS w0 b P K w) {B : Nat} {W : World} (hb : Below B W w) (ht : Did b w w') (hB : B ≤ b) (hs : B ≤ w.heap.size) : Below B W w' := did_below hb ht hB hs
def K1 : Nat → Sm := put (fun _ => Sm.zero) 0 { Sm.zero with run := 1 }
def K2 : Nat → Sm := put K1 0 ⟨1, a5, 0⟩
set_option maxRecDepth 100000 in
set_option maxHeartbeats 2000000 in
theorem awake_any (w : World) : Calls Try.prog 5 #[] w fun e w' => e = .returned (.bool true) ∧ Below w.heap.size w w' := by
  go_enter Try.func5, Try.ntmps5
  go_wp2_with fail
  refine (new_any w).mono ?_
  rintro e w1 ⟨rfl, h1, _⟩
  have H1 := Lib.hid h1
  have C1 := Lib.hid (start_ok ⟨_, h1⟩ (i := 0) (by decide) (seq := 1) (by decide) (by decide))
  clear h1
  go_wp2_with fail
  refine C1.out.mono ?_
  rintro e w2 ⟨rfl, h2, _⟩
  rw [show startE ((fun _ => Sm.zero) 0) 1 = 0 from by decide]
  have H2 : Hid (TabS w w.heap.size (fun k => k = w.heap.size) K1 w2) := Lib.hid h2
  have C2 := Lib.hid (start_ok H2.out (i := 0) (by decide) (seq := 2) (by decide) (by decide))
  clear h2 C1
  go_wp2_with fail
  refine C2.out.mono ?_
  rintro e w3 ⟨rfl, h3, _⟩
  rw [show startE (K1 0) 2 = 14 from by decide]
  have H3 : Hid (TabS w w.heap.size (fun k => k = w.heap.size) K1 w3) := Lib.hid (by
    have h := h3
    rw [show startK (K1 0) 2 = K1 0 from rfl, put_same] at h
    exact h)
  have C3 := Lib.hid (ask_ok H3.out (i := 0) (by decide) (seq := 1) (by decide) (by decide))
  clear h3 C2
  go_wp2_with fail
  refine C3.out.mono ?_
  rintro e w4 ⟨p4, rfl, _, hb4⟩
  rw [show askR (K1 0) 1 = (1, .zero, 0) from rfl]
  have hb4' : Below w3.heap.size w3 (w4.alloc (.cells #[.int .i64 0, .int .i64 0, .slice p4.vo 0 p4.vc, .slice p4.lo 0 p4.lc] 28)) := hb4.alloc hb4.size _
  have H4 := Lib.hid (H3.out.below hb4')
  have C4 := Lib.hid (fin_ok H4.out (i := 0) (by decide) (seq := 1) (by decide) (by decide) (a5_at _))
  clear hb4 hb4' C3
  unfold An.val at C4 ⊢
  simp only [An.zero, a5, Pl.nil, List.length_nil] at C4 ⊢
  go_wp2_with fail
  refine C4.out.mono ?_
  rintro e w5 ⟨rfl, h5, _⟩
  rw [show finE (K1 0) 1 = 0 from by decide]
  have H5 : Hid (TabS w w.heap.size (fun k => k = w.heap.size) K2 w5) := Lib.hid h5
  have C5 := Lib.hid (ask_ok H5.out (i := 0) (by decide) (seq := 1) (by decide) (by decide))
  clear h5 C4
  go_wp2_with fail
  refine C5.out.mono ?_
  rintro e w6 ⟨p6, rfl, _, hb6⟩
  rw [show askR (K2 0) 1 = (2, a5, 0) from rfl]
  have hb6' : Below w5.heap.size w5 (w6.alloc (.cells #[.int .i64 0, .int .i64 5, .slice p6.vo 0 p6.vc, .slice p6.lo 0 p6.lc] 28)) := hb6.alloc hb6.size _
  have H6 := Lib.hid (H5.out.below hb6').low
  clear hb6 hb6' C5
  unfold An.val
  simp only [a5, List.length_nil]
  go_wp2_with fail
  go_ret
  exact ⟨rfl, H6.out⟩
end Go.Proofs.Yteikhbfdegmffaa.Se
