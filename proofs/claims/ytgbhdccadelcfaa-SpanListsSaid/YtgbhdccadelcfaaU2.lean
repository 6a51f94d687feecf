/- The sort of no span at all, walked. -/
import Derived.Test.YtgbhdccadelcfaaU1
namespace Go.Proofs.Ytgbhdccadelcfaa.Sp
open Go Go.RowKit Go.Sort Go.Shelf
theorem ins_none (p : Option Addr) (cap : Nat) (fv : Value) (w : World) : Calls Try.prog 55 #[.slice p 0 cap, .int .i64 0, .int .i64 0, fv] w fun e w' => e = .returned (.tuple #[]) ∧ w' = w := by
  go_enter Try.func55, Try.ntmps55
  go_wp2
  refine wp_loop_rounds 1 ?_
  rw [rounds_succ]
  go_wp2
  go_end0
  exact ⟨rfl, rfl⟩
set_option maxHeartbeats 2000000 in
theorem pdq_none (p : Option Addr) (cap : Nat) (lim : Int) (fv : Value) (w : World) : Calls Try.prog 52 #[.slice p 0 cap, .int .i64 0, .int .i64 0, .int .i64 lim, fv] w fun e w' => e = .returned (.tuple #[]) ∧ w' = w := by
  go_enter Try.func52, Try.ntmps52
  go_wp2_with fail
  refine wp_loop_rounds 1 ?_
  rw [rounds_succ]
  go_wp2_with (go_at_call 55; refine (ins_none p cap fv _).mono ?_; rintro e w' ⟨rfl, rfl⟩)
  (try simp only [Exit.inBlock, Exit.then]); refine bodyPost_ret (results_none rfl _ _ _) rfl ?_
  exact ⟨rfl, rfl⟩
theorem len_zero (w : World) : Calls Try.prog 53 #[.int .u64 0] w fun e w' => e = .returned (.int .i64 (Lib.bitLen 0 : Nat)) ∧ w' = w :=
  Any.bits_Len (SlLaysF0.n15.bits (P := Try.prog) (ρ := Try.sortQ_ren) { Try.sortQ with }) 0 w (by omega) (by omega)
theorem sort_none (p : Option Addr) (cap : Nat) (fv : Value) (w : World) : Calls Try.prog 44 #[.slice p 0 cap, fv] w fun e w' => e = .returned (.tuple #[]) ∧ w' = w := by
  go_enter Try.func44, Try.ntmps44
  go_wp2_with (first | (go_at_call 53; refine (len_zero _).mono ?_; rintro e w' ⟨rfl, rfl⟩) | (go_at_call 52; refine (pdq_none p cap _ fv _).mono ?_; rintro e w' ⟨rfl, rfl⟩))
  go_end0
  exact ⟨rfl, rfl⟩
/-- A list of the call's own, sorted: nil too. -/
theorem sort_any {w0 w : World} {B n : Nat} {v : Value} {L : SL} (hn : L.length = n) (hb : Below B w0 w) (hB : B ≤ w.heap.size) (hm : n ≤ 100000) (h : w.ownsRow B 46 2 v n (fl L)) :
    Calls Try.prog 44 #[v, .func (.func 36) #[] #[]] w fun e w' => e = .returned (.tuple #[]) ∧ ∃ L' ao cap, L'.Perm L ∧ v = .slice ao n cap ∧ Rd2 w' ao L' ∧ Below B w0 w' := by
  rcases h.2 with ⟨e, e0⟩ | ⟨g, cap, _, e, _⟩
  · subst e0
    subst e
    obtain rfl : L = [] := List.length_eq_zero_iff.1 hn
    refine (sort_none none 0 _ w).mono ?_
    rintro e w' ⟨rfl, rfl⟩
    exact ⟨rfl, [], none, 0, .refl _, rfl, fun i t ht => by simp at ht, hb⟩
  · subst e
    refine (sort_own hn hb hB hm h).mono ?_
    rintro e w' ⟨rfl, L', h1, h2, h3⟩
    exact ⟨rfl, L', _, _, h1, rfl, h2, h3⟩
end Go.Proofs.Ytgbhdccadelcfaa.Sp
