/- commit: Runs, Stands, Take, Settle, running, walked. -/
import Derived.Test.YtklalpamcfkngaaA3
namespace Go.Proofs.Ytklalpamcfkngaa.Cm
open Go Go.RowKit
def stR : Option RunM → Int
  | none => 0
  | some m => m.s
def stT : Option Int → Int
  | none => 0
  | some s => s
section
variable {w : World} {B n p a b : Nat} {F : Nat → Prop} {R : TK → Option (Nat × RunM)} {T : TK → Option Int} {t : TK}
theorem find_none (h : BookAt w B n F p a b R T) (ht : InK t) (hR : R t = none) :
    Calls Try.prog 34 #[.pointer (some ⟨p, 0, none⟩), .agg #[.int .u8 t.1, .int .u32 t.2.1, .int .u32 t.2.2]] w fun e w' => e = .returned (.pointer none) ∧ Below w.heap.size w w' := by
  refine (findV h ht).mono ?_
  rintro e w' ⟨rfl, hb⟩
  exact ⟨by simp [ptrV, hR], hb⟩
theorem find_some (h : BookAt w B n F p a b R T) (ht : InK t) {g : Nat} {m : RunM} (hR : R t = some (g, m)) :
    Calls Try.prog 34 #[.pointer (some ⟨p, 0, none⟩), .agg #[.int .u8 t.1, .int .u32 t.2.1, .int .u32 t.2.2]] w fun e w' => e = .returned (.pointer (some ⟨g, 0, none⟩)) ∧ Below w.heap.size w w' := by
  refine (findV h ht).mono ?_
  rintro e w' ⟨rfl, hb⟩
  exact ⟨by simp [ptrV, hR], hb⟩
end
theorem runs_nil (t : TK) (w : World) : Calls Try.prog 10 #[.pointer none, .agg #[.int .u8 t.1, .int .u32 t.2.1, .int .u32 t.2.2]] w fun e w' => e = .returned (.int .i64 0) ∧ Below w.heap.size w w' := by
  have hb0 := Lib.hid ((Below.refl _ w).alloc (Nat.le_refl _) (.cells #[.int .u8 t.1, .int .u32 t.2.1, .int .u32 t.2.2] 33))
  go_enter Try.func10, Try.ntmps10
  go_wp2_with (go_at_call 34; refine (find_nil t _).mono ?_; rintro e w1 ⟨rfl, hb⟩; have H1 := Lib.hid (hb0.out.trans (hb.mono hb0.out.size)); clear hb)
  go_ret
  exact ⟨rfl, H1.out⟩
theorem run_cells {w : World} {g : Nat} {m : RunM} (h : w.heap[g]? = some (.cells (runCells m) 77 (0, 0))) :
    (w.cell? ⟨g, 0, none⟩ = some (.bool (m.n 0)) ∧ w.cell? ⟨g, 1, none⟩ = some (.bool (m.n 1)) ∧ w.cell? ⟨g, 2, none⟩ = some (.bool (m.n 2)) ∧ w.cell? ⟨g, 3, none⟩ = some (.bool (m.n 3)))
    ∧ (w.cell? ⟨g, 4, none⟩ = some (.bool (m.v 0)) ∧ w.cell? ⟨g, 5, none⟩ = some (.bool (m.v 1)) ∧ w.cell? ⟨g, 6, none⟩ = some (.bool (m.v 2)) ∧ w.cell? ⟨g, 7, none⟩ = some (.bool (m.v 3)))
    ∧ (w.cell? ⟨g, 8, none⟩ = some (.bool (m.a 0)) ∧ w.cell? ⟨g, 9, none⟩ = some (.bool (m.a 1)) ∧ w.cell? ⟨g, 10, none⟩ = some (.bool (m.a 2)) ∧ w.cell? ⟨g, 11, none⟩ = some (.bool (m.a 3)))
    ∧ w.cell? ⟨g, 12, none⟩ = some (.int .i64 m.s) ∧ ∀ i, w.frozen? ⟨g, i, none⟩ = false := by
  simp [World.cell?, World.frozen?, h, runCells]
theorem runs_any {w : World} {B n p : Nat} {F : Nat → Prop} {RM : TK → Option RunM} {T : TK → Option Int} (h : Bk w B n F p RM T) {t : TK} (ht : InK t) :
    Calls Try.prog 10 #[.pointer (some ⟨p, 0, none⟩), .agg #[.int .u8 t.1, .int .u32 t.2.1, .int .u32 t.2.2]] w fun e w' => e = .returned (.int .i64 (stR (RM t))) ∧ Below w.heap.size w w' := by
  obtain ⟨a, b, R, h, hRM⟩ := h
  have hb0 : Below w.heap.size w (w.alloc (.cells #[.int .u8 t.1, .int .u32 t.2.1, .int .u32 t.2.2] 33)) := (Below.refl _ w).alloc (Nat.le_refl _) _
  have H1 := Lib.hid (h.below hb0)
  have HB := Lib.hid hb0
  rw [← hRM t ht]
  have hE := h.each t
  clear h hb0 hRM
  cases hR : R t with
  | none =>
    have HR := Lib.hid hR
    clear hR hE
    go_enter Try.func10, Try.ntmps10
    go_wp2_with (go_at_call 34; refine (find_none H1.out ht HR.out).mono ?_; rintro e w1 ⟨rfl, hb⟩; have H2 := Lib.hid (HB.out.trans (hb.mono HB.out.size)); clear hb)
    go_ret
    exact ⟨rfl, H2.out⟩
  | some r =>
    obtain ⟨g, m⟩ := r
    have HR := Lib.hid hR
    obtain ⟨_, _, _, c12, _⟩ := run_cells (H1.out.each t _ ht hR).1
    clear hR hE
    go_enter Try.func10, Try.ntmps10
    go_wp2_with (go_at_call 34; refine (find_some H1.out ht HR.out).mono ?_; rintro e w1 ⟨rfl, hb⟩; have H2 := Lib.hid (HB.out.trans (hb.mono HB.out.size)); obtain ⟨_, _, _, c13, _⟩ := run_cells ((H1.out.below hb).each t _ ht HR.out).1; clear hb)
    go_ret
    exact ⟨rfl, H2.out⟩
theorem stands_nil (t : TK) (w : World) : Calls Try.prog 11 #[.pointer none, .agg #[.int .u8 t.1, .int .u32 t.2.1, .int .u32 t.2.2]] w fun e w' => e = .returned (.int .i64 0) ∧ Below w.heap.size w w' := by
  go_enter Try.func11, Try.ntmps11
  go_wp2
  go_ret
  exact ⟨rfl, (Below.refl _ w).alloc (Nat.le_refl _) _⟩
theorem intV_get (T : TK → Option Int) (t : TK) : (intV T t).getD (.int .i64 0) = .int .i64 (stT (T t)) := by
  unfold intV
  cases T t <;> rfl
set_option maxRecDepth 100000 in
theorem stands_any {w : World} {B n p : Nat} {F : Nat → Prop} {RM : TK → Option RunM} {T : TK → Option Int} (h : Bk w B n F p RM T) {t : TK} (ht : InK t) :
    Calls Try.prog 11 #[.pointer (some ⟨p, 0, none⟩), .agg #[.int .u8 t.1, .int .u32 t.2.1, .int .u32 t.2.2]] w fun e w' => e = .returned (.int .i64 (stT (T t))) ∧ Below w.heap.size w w' := by
  obtain ⟨a, b, R, h, hRM⟩ := h
  have hb0 : Below w.heap.size w (w.alloc (.cells #[.int .u8 t.1, .int .u32 t.2.1, .int .u32 t.2.2] 33)) := (Below.refl _ w).alloc (Nat.le_refl _) _
  have H1 := Lib.hid (h.below hb0)
  have HB := Lib.hid hb0
  clear h hb0 hRM
  go_enter Try.func11, Try.ntmps11
  go_wp2
  refine wp_region_still_lit (by kernel_rfl) (by kernel_rfl) ?_
  change wpStill _ _ (World.drew _) _ _ _
  obtain ⟨cp0, cp1⟩ := H1.out.cells
  have HM := Lib.hid (H1.out.takes.on (turned_drew (fun _ => False) _) id)
  repeat (first | (refine wpStill_value rfl (exec_look52 (x := .tmp 10) (y := .tmp 11) rfl rfl rfl HM.out ht) ?_; rw [intV_get]) | still_step)
  refine wpStill_nil ?_
  go_wp2
  go_ret
  exact ⟨rfl, HB.out.drew⟩
theorem take_nil (t : TK) (w : World) : Calls Try.prog 24 #[.pointer none, .agg #[.int .u8 t.1, .int .u32 t.2.1, .int .u32 t.2.2]] w fun e w' => e = .returned (.int .i64 6) ∧ Below w.heap.size w w' := by
  go_enter Try.func24, Try.ntmps24
  go_wp2
  go_ret
  exact ⟨rfl, (Below.refl _ w).alloc (Nat.le_refl _) _⟩
theorem running_nil (t : TK) (x : Int) (w : World) : Calls Try.prog 36 #[.pointer none, .agg #[.int .u8 t.1, .int .u32 t.2.1, .int .u32 t.2.2], .int .u8 x] w fun e w' => e = .returned (.tuple #[.pointer none, .int .i64 6]) ∧ Below w.heap.size w w' := by
  have hb0 := Lib.hid ((Below.refl _ w).alloc (Nat.le_refl _) (.cells #[.int .u8 t.1, .int .u32 t.2.1, .int .u32 t.2.2] 33))
  go_enter Try.func36, Try.ntmps36
  go_wp2_with (go_at_call 34; refine (find_nil t _).mono ?_; rintro e w1 ⟨rfl, hb⟩; have H1 := Lib.hid (hb0.out.trans (hb.mono hb0.out.size)); clear hb)
  go_ret2
  exact ⟨rfl, H1.out⟩
end Go.Proofs.Ytklalpamcfkngaa.Cm
