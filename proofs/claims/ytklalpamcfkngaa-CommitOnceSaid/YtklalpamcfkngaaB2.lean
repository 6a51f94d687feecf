/- commit: Applied, walked. -/
import Derived.Test.YtklalpamcfkngaaB1
namespace Go.Proofs.Ytklalpamcfkngaa.Cm
open Go Go.RowKit
def bi (q : Bool) (e : Int) : Value := .tuple #[.bool q, .int .i64 e]
theorem applied_nil (t : TK) (x : Int) (w : World) : Calls Try.prog 22 #[.pointer none, .agg #[.int .u8 t.1, .int .u32 t.2.1, .int .u32 t.2.2], .int .u8 x] w fun e w' => e = .returned (bi false 6) ∧ Below w.heap.size w w' := by
  have hb0 := Lib.hid ((Below.refl _ w).alloc (Nat.le_refl _) (.cells #[.int .u8 t.1, .int .u32 t.2.1, .int .u32 t.2.2] 33))
  go_enter Try.func22, Try.ntmps22
  go_wp2_with (go_at_call 36; refine (running_nil t x _).mono ?_; rintro e w1 ⟨rfl, hb⟩; have H1 := Lib.hid (hb0.out.trans (hb.mono hb0.out.size)); clear hb)
  go_ret2
  exact ⟨rfl, H1.out⟩
section
variable {w : World} {B n p a b : Nat} {F : Nat → Prop} {R : TK → Option (Nat × RunM)} {RM : TK → Option RunM} {T : TK → Option Int} {t : TK}
theorem applied_err (h : BookAt w B n F p a b R T) (ht : InK t) (x : Int) (hx0 : 0 ≤ x) {er : Int} (hee : runE ((R t).map (·.2)) x = er) (he : er ≠ 0) :
    Calls Try.prog 22 #[.pointer (some ⟨p, 0, none⟩), .agg #[.int .u8 t.1, .int .u32 t.2.1, .int .u32 t.2.2], .int .u8 x] w fun e w' => e = .returned (bi false er) ∧ Below w.heap.size w w' := by
  have hb0 := Lib.hid ((Below.refl _ w).alloc (Nat.le_refl _) (.cells #[.int .u8 t.1, .int .u32 t.2.1, .int .u32 t.2.2] 33))
  have H1 := Lib.hid (h.below hb0.out)
  have HE := Lib.hid (And.intro hee he)
  have e0 : (er != 0) = true := by simpa using he
  clear h hee he
  go_enter Try.func22, Try.ntmps22
  go_wp2_with (go_at_call 36; refine (running_err H1.out ht x hx0 (by rw [HE.out.1]; exact HE.out.2)).mono ?_; rw [HE.out.1]; rintro e w1 ⟨rfl, hb⟩; have H2 := Lib.hid (hb0.out.trans (hb.mono hb0.out.size)); clear hb)
  go_ret2
  exact ⟨rfl, H2.out⟩
theorem applied_no (h : BookAt w B n F p a b R T) (ht : InK t) {g : Nat} {m : RunM} (hR : R t = some (g, m)) (j : Nat) (hj : j < 4) (hm : m.n j = true) (hs : m.s ≠ 3) :
    Calls Try.prog 22 #[.pointer (some ⟨p, 0, none⟩), .agg #[.int .u8 t.1, .int .u32 t.2.1, .int .u32 t.2.2], .int .u8 j] w fun e w' => e = .returned (bi false 9) ∧ Below w.heap.size w w' := by
  have hb0 := Lib.hid ((Below.refl _ w).alloc (Nat.le_refl _) (.cells #[.int .u8 t.1, .int .u32 t.2.1, .int .u32 t.2.2] 33))
  have H1 := Lib.hid (h.below hb0.out)
  have HR := Lib.hid hR
  have HM := Lib.hid hm
  have e3 : (m.s != 3) = true := by simpa using hs
  clear h hR hm hs
  obtain ⟨s, hs⟩ : ∃ s, m.s = s := ⟨_, rfl⟩
  rw [hs] at e3
  have HS := Lib.hid hs
  clear hs
  go_enter Try.func22, Try.ntmps22
  go_wp2_with (go_at_call 36; refine (running_in H1.out ht HR.out j hj HM.out).mono ?_; rintro e w1 ⟨rfl, hb⟩; have H2 := Lib.hid (hb0.out.trans (hb.mono hb0.out.size)); obtain ⟨_, _, _, c12, _⟩ := run_cells ((H1.out.below hb).each t _ ht HR.out).1; rw [HS.out] at c12; clear hb)
  go_ret2
  exact ⟨rfl, H2.out⟩
set_option maxRecDepth 100000 in
set_option maxHeartbeats 4000000 in
theorem applied_yes (h : BookAt w B n F p a b R T) (hRM : ∀ k, InK k → (R k).map (·.2) = RM k) (ht : InK t) {g : Nat} {m : RunM} (hR : R t = some (g, m)) (j : Nat) (hj : j < 4) (hm : m.n j = true) (hs : m.s = 3) :
    Calls Try.prog 22 #[.pointer (some ⟨p, 0, none⟩), .agg #[.int .u8 t.1, .int .u32 t.2.1, .int .u32 t.2.2], .int .u8 j] w fun e w' => e = .returned (bi (eq4 (tru m.a j) m.n) 0) ∧ Did w B n F p (updR RM t { m with a := tru m.a j }) T w' := by
  have hb0 := Lib.hid ((Below.refl _ w).alloc (Nat.le_refl _) (.cells #[.int .u8 t.1, .int .u32 t.2.1, .int .u32 t.2.2] 33))
  have H1 := Lib.hid (h.below hb0.out)
  have HR := Lib.hid hR
  have HRM := Lib.hid hRM
  have HM := Lib.hid hm
  have HS := Lib.hid hs
  have hg := guard75
  have hn := eql75
  obtain ⟨q, hq⟩ : ∃ q, eq4 (tru m.a j) m.n = q := ⟨_, rfl⟩
  rw [hq]
  have HQ := Lib.hid hq
  clear h hR hRM hm hs hq
  have hjj : j = 0 ∨ j = 1 ∨ j = 2 ∨ j = 3 := by omega
  rcases hjj with rfl | rfl | rfl | rfl
  all_goals
    clear hj
    have hq := HQ.out
    simp only [eq4, tru] at hq
    simp at hq
    cases q
    all_goals
      go_enter Try.func22, Try.ntmps22
      go_wp2_with (go_at_call 36; refine (running_in H1.out ht HR.out _ (by decide) HM.out).mono ?_; rintro e w1 ⟨rfl, hb⟩; have H2 := Lib.hid (hb0.out.trans (hb.mono hb0.out.size)); obtain ⟨⟨n0, n1, n2, n3⟩, _, ⟨v0, v1, v2, v3⟩, c12, fz⟩ := run_cells ((H1.out.below hb).each t _ ht HR.out).1; rw [HS.out] at c12; have H3 := Lib.hid (H1.out.below hb); have f4 := fz 8; have f5 := fz 9; have f6 := fz 10; have f7 := fz 11; clear hb fz)
      go_quiet (fail)
      go_wp2
      go_ret2
      refine ⟨by simp [bi], did_run H3.out HRM.out ht HR.out H2.out ((turned_set w1 g _ (.bool true)).then (turned_drewN _ _ nq)) ((set_block (H3.out.each t _ ht HR.out).1).trans (by simp [runCells, tru]))⟩
end
end Go.Proofs.Ytklalpamcfkngaa.Cm
