/- slices.Sort over numbers, walked. -/
import Derived.Test.YtgjjfodogkcmmaaS12
namespace Go.Proofs.Ytgjjfodogkcmmaa.So
open Go Go.RowKit
theorem bl_le (f x : Nat) : Lib.bitLenAux f x ≤ f := by
  induction f generalizing x with
  | zero => simp [Lib.bitLenAux]
  | succ f ih =>
    unfold Lib.bitLenAux
    split
    · omega
    · have := ih (x / 2); omega
theorem len_any (n : Nat) (hn : n ≤ 1152921504606846975) (w : World) : Calls Try.prog 50 #[.int .u64 n] w fun e w' => (∃ l : Nat, e = .returned (.int .i64 l) ∧ l ≤ 100) ∧ w = w' := by
  refine Calls.mono (Try.bits_Len n w (by omega) (by omega)) ?_
  rintro e w' ⟨rfl, rfl⟩
  refine ⟨⟨_, rfl, ?_⟩, rfl⟩
  have := bl_le 64 ((n : Int).toNat)
  show Lib.bitLenAux 64 _ ≤ 100
  omega
set_option maxRecDepth 100000 in
theorem sort_any (B g cap n : Nat) (f : Fn) (w : World) (h : Own w B g cap n f) (hn : n ≤ 1152921504606846975) :
    Calls Try.prog 34 #[.slice (some ⟨g, 0, none⟩) n cap] w fun e w' => e = .returned (.tuple #[]) ∧ Done w B g cap n 0 n f w' := by
  have kw : IntKind.u64.wrap (n : Int) = (n : Int) := by simp [IntKind.wrap, IntKind.bits, IntKind.signed]; omega
  have k0 : (n : Int) ≤ 1152921504606846975 := by omega
  have H := Lib.hid h
  clear h
  go_enter Try.func34, Try.ntmps34
  go_wp2_with (fail)
  refine (len_any n hn w).mono ?_
  rintro e _ ⟨⟨l, rfl, hl⟩, rfl⟩
  go_wp2_with (fail)
  refine (pdq_any B g cap n hn n 0 n l f w (by omega) (by omega) (Nat.le_refl _) hl (fun h0 => by omega) H.out).mono ?_
  rintro e w1 ⟨rfl, hd⟩
  have HD := Lib.hid hd
  clear hd
  go_wp2_with (fail)
  go_end0
  exact ⟨rfl, HD.out⟩
theorem ins_none (p : Option Addr) (cap : Nat) (w : World) : Calls Try.prog 60 #[.slice p 0 cap, .int .i64 0, .int .i64 0] w fun e w' => e = .returned (.tuple #[]) ∧ w = w' := by
  go_enter Try.func60, Try.ntmps60
  go_wp2
  refine wp_loop_rounds 1 ?_
  rw [rounds_succ]
  go_wp2
  go_end0
  exact ⟨rfl, rfl⟩
theorem pdq_none (p : Option Addr) (cap l : Nat) (w : World) : Calls Try.prog 49 #[.slice p 0 cap, .int .i64 0, .int .i64 0, .int .i64 l] w fun e w' => e = .returned (.tuple #[]) ∧ w = w' := by
  go_enter Try.func49, Try.ntmps49
  go_wp2
  refine wp_loop_rounds 1 ?_
  rw [rounds_succ]
  go_wp2_with (first | (go_at_call 60; refine (ins_none _ _ _).mono ?_; rintro e _ ⟨rfl, rfl⟩))
  exact bodyPost_ret (v := .tuple #[]) (results_none rfl _ _ _) rfl ⟨rfl, rfl⟩
theorem sort_none (p : Option Addr) (cap : Nat) (w : World) : Calls Try.prog 34 #[.slice p 0 cap] w fun e w' => e = .returned (.tuple #[]) ∧ w = w' := by
  go_enter Try.func34, Try.ntmps34
  go_wp2_with (fail)
  refine (len_any 0 (by omega) w).mono ?_
  rintro e _ ⟨⟨l, rfl, hl⟩, rfl⟩
  go_wp2_with (first | (go_at_call 49; refine (pdq_none _ _ l _).mono ?_; rintro e _ ⟨rfl, rfl⟩))
  go_end0
  exact ⟨rfl, rfl⟩
end Go.Proofs.Ytgjjfodogkcmmaa.So
