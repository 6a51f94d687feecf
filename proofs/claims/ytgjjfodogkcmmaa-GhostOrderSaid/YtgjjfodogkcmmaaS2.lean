/- The sort of numbers: insertion, walked. -/
import Derived.Test.YtgjjfodogkcmmaaS1
namespace Go.Proofs.Ytgjjfodogkcmmaa.So
open Go Go.RowKit
/-- What a part of the sort leaves: by swaps between a and b, in order there. -/
def Done (w0 : World) (B g cap n a b : Nat) (f : Fn) (w : World) : Prop := ∃ f', Sw a b f f' ∧ Up a b f' ∧ Has w0 B g cap n f' w
theorem rd2 {w0 wr : World} {B g cap n i : Nat} {f : Fn} (h : Has w0 B g cap n f wr) (hi : i < n) : wr.cell? ⟨g, i, none⟩ = some (.int .u32 (f i)) := h.1.cell hi
theorem Has.swp {a b : World} {B g cap n i j : Nat} {f : Fn} {x y : Int} (h : Has a B g cap n f b) (q : Nat) (hi : i < n) (hj : j < n) (hx : x = f i) (hy : y = f j) :
    Has a B g cap n (sw f i j) (((b.drewN q).setCell ⟨g, i, none⟩ (.int .u32 y)).setCell ⟨g, j, none⟩ (.int .u32 x)) := by
  subst hx; subst hy; exact (h.drewN q).swap hi hj
set_option maxRecDepth 100000 in
set_option maxHeartbeats 1000000 in
theorem ins_any (B g cap n a b : Nat) (f : Fn) (w : World) (h : Own w B g cap n f) (hn : n ≤ 4611686018427387903) (hb : b ≤ n) (ha : a ≤ n) :
    Calls Try.prog 60 #[.slice (some ⟨g, 0, none⟩) n cap, .int .i64 a, .int .i64 b] w fun e w' => e = .returned (.tuple #[]) ∧ Done w B g cap n a b f w' := by
  have H := Lib.hid (Has.refl h)
  clear h
  go_enter Try.func60, Try.ntmps60
  go_wp2
  go_loopw [6] (fun u wr => ∃ i : Nat, u = .int .i64 i ∧ a + 1 ≤ i ∧ (i ≤ b ∨ i = a + 1) ∧ Hid (∃ f', Sw a b f f' ∧ Up a i f' ∧ Has w B g cap n f' wr)) (fun u _ => n + 1 - (intOf u).toNat)
  case atStart => exact ⟨a + 1, by go_num, by omega, .inr rfl, Lib.hid ⟨f, .refl f, up_small f (by omega), H.out⟩⟩
  case round =>
    obtain ⟨i, rfl, hi1, hi2, HI⟩ := hrel
    clear H
    by_cases hib : i < b
    · go_wp2
      obtain ⟨f1, hs1, hu1, hh1⟩ := HI.out
      have H1 := Lib.hid (show ∃ f', Sw a b f f' ∧ Ins a i i f' ∧ Has w B g cap n f' wr from ⟨f1, hs1, ins_start hu1, hh1⟩)
      clear HI hs1 hu1 hh1
      go_loopw [7] (fun u wr => ∃ j : Nat, u = .int .i64 j ∧ a ≤ j ∧ j ≤ i ∧ Hid (∃ f', Sw a b f f' ∧ Ins a j i f' ∧ Has w B g cap n f' wr)) (fun u _ => (intOf u).toNat)
      case atStart => exact ⟨i, rfl, by omega, Nat.le_refl _, H1⟩
      case round =>
        obtain ⟨j, rfl, hj1, hj2, HJ⟩ := hrel
        clear H1
        obtain ⟨f2, hs2, hi2, hh2⟩ := HJ.out
        by_cases haj : a < j
        · obtain ⟨k, rfl⟩ : ∃ k, j = k + 1 := ⟨j - 1, by omega⟩
          have c1 := rd2 hh2 (i := k + 1) (by omega)
          have c0 := rd2 hh2 (i := k) (by omega)
          have e1 := hh2.1.free (k + 1)
          have e0 := hh2.1.free k
          have HS := Lib.hid (And.intro hs2 (And.intro hi2 hh2))
          obtain ⟨x, hx⟩ : ∃ x, x = f2 (k + 1) := ⟨_, rfl⟩
          obtain ⟨y, hy⟩ : ∃ y, y = f2 k := ⟨_, rfl⟩
          rw [← hx] at c1
          rw [← hy] at c0
          have HX := Lib.hid (And.intro hx hy)
          clear hs2 hi2 hh2 hx hy HJ
          have kn : (k : Int) + 1 < (n : Int) := by omega
          have ka : (a : Int) < (k : Int) + 1 := by omega
          go_wp2
          go_quiet (first | (go_at_call 66; refine Calls.quiet_of_same (less_any _ _ _)))
          go_wp2
          · have hl : x < y := by assumption
            go_region
            all_goals go_wp2
            go_roundw
            case rel =>
              refine ⟨k, by go_num, by omega, by omega, Lib.hid ⟨sw f2 (k + 1) k, HS.out.1.trans (ins_swap f2 (by omega) (by omega) hib), ins_step HS.out.2.1 (by omega) (by omega) (by rw [← HX.out.1, ← HX.out.2]; exact hl), ?_⟩⟩
              exact HS.out.2.2.swp (nq + 1) (by omega) (by omega) HX.out.1 HX.out.2
            case measure => simp [intOf] <;> omega
          · have hl : y ≤ x := by assumption
            go_roundw
            case rel => exact ⟨i + 1, by go_num, by omega, by omega, Lib.hid ⟨f2, HS.out.1, ins_end HS.out.2.1 (by omega) (by omega) (.inr (by have h1 := HX.out.1; have h2 := HX.out.2; simp only [Nat.add_sub_cancel]; omega)), HS.out.2.2.drewN _⟩⟩
            case measure => simp [intOf] <;> omega
        · have ka : decide ((a : Int) < (j : Int)) = false := by simp; omega
          obtain rfl : j = a := by omega
          have HS := Lib.hid (And.intro hs2 (And.intro hi2 hh2))
          clear hs2 hi2 hh2 HJ
          go_wp2
          go_quiet (fail)
          go_wp2
          go_roundw
          case rel => exact ⟨i + 1, by go_num, by omega, by omega, Lib.hid ⟨f2, HS.out.1, ins_end HS.out.2.1 (by omega) (by omega) (.inl rfl), HS.out.2.2.drewN _⟩⟩
          case measure => simp [intOf] <;> omega
    · obtain ⟨f1, hs1, hu1, hh1⟩ := HI.out
      have HE := Lib.hid (show Done w B g cap n a b f wr from ⟨f1, hs1, by rcases hi2 with h | h; (exact hu1.mono (Nat.le_refl _) (by omega)); (exact up_small _ (by omega)), hh1⟩)
      clear hs1 hu1 hh1 HI
      go_wp2
      go_end0
      exact ⟨rfl, HE.out⟩
end Go.Proofs.Ytgjjfodogkcmmaa.So
