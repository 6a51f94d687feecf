/- The sort of numbers: a heap is mended, walked. -/
import Derived.Test.YtgjjfodogkcmmaaS2
namespace Go.Proofs.Ytgjjfodogkcmmaa.So
open Go Go.RowKit
theorem wr64 {x : Int} (h1 : -9223372036854775808 ≤ x) (h2 : x ≤ 9223372036854775807) : IntKind.i64.wrap x = x := by simp [IntKind.wrap, IntKind.bits, IntKind.signed]; omega
theorem less_yes {x y : Int} (h : x < y) (w : World) : Calls Try.prog 66 #[.int .u32 x, .int .u32 y] w fun e w' => e = .returned (.bool true) ∧ w' = w := by
  have := less_any x y w; rwa [decide_eq_true h] at this
theorem less_no {x y : Int} (h : ¬ x < y) (w : World) : Calls Try.prog 66 #[.int .u32 x, .int .u32 y] w fun e w' => e = .returned (.bool false) ∧ w' = w := by
  have := less_any x y w; rwa [decide_eq_false h] at this
def Sift (w0 : World) (B g cap n s lo hi : Nat) (f : Fn) (w : World) : Prop := ∃ f', Sw s (s + hi) f f' ∧ Hp s lo hi f' ∧ Has w0 B g cap n f' w
set_option maxRecDepth 100000 in
set_option maxHeartbeats 2000000 in
theorem sift_any (B g cap n s lo hi : Nat) (f : Fn) (w : World) (h : Own w B g cap n f) (hn : n ≤ 1152921504606846975) (hs : s + hi ≤ n) (hlo : lo ≤ n) (hx : HpX s lo hi lo f) :
    Calls Try.prog 76 #[.slice (some ⟨g, 0, none⟩) n cap, .int .i64 lo, .int .i64 hi, .int .i64 s] w fun e w' => e = .returned (.tuple #[]) ∧ Sift w B g cap n s lo hi f w' := by
  have H := Lib.hid (show ∃ f', Sw s (s + hi) f f' ∧ HpX s lo hi lo f' ∧ Has w B g cap n f' w from ⟨f, .refl f, hx, .refl h⟩)
  clear h hx
  go_enter Try.func76, Try.ntmps76
  go_wp2
  go_loopw [8] (fun u wr => ∃ r : Nat, u = .int .i64 r ∧ lo ≤ r ∧ (r = lo ∨ r < hi) ∧ Hid (∃ f', Sw s (s + hi) f f' ∧ HpX s lo hi r f' ∧ Has w B g cap n f' wr)) (fun u _ => n - (intOf u).toNat)
  case atStart => exact ⟨lo, rfl, Nat.le_refl _, .inl rfl, H⟩
  case round =>
    obtain ⟨r, rfl, hr1, hr2, HI⟩ := hrel
    clear H
    obtain ⟨f1, hs1, hx1, hh1⟩ := HI.out
    clear HI
    obtain ⟨c, hc⟩ : ∃ c : Nat, c = 2 * r + 1 := ⟨_, rfl⟩
    by_cases hch : hi ≤ c
    · have HE := Lib.hid (show Sift w B g cap n s lo hi f wr from ⟨f1, hs1, hpx_end hx1 (fun c' h1 h2 h3 => by omega), hh1⟩)
      have k1 : (hi : Int) ≤ 2 * (r : Int) + 1 := by omega
      clear hs1 hx1 hh1
      go_wp2
      go_end0
      exact ⟨rfl, HE.out⟩
    · have k0 : 2 * (r : Int) + 1 = (c : Int) := by omega
      have k1 : ¬ ((hi : Int) ≤ (c : Int)) := by omega
      have kc : (c : Int) ≤ 9223372036854775806 := by omega
      by_cases hsib : hi ≤ c + 1
      · have k2 : decide ((c : Int) + 1 < (hi : Int)) = false := by simp; omega
        have HC := Lib.hid (And.intro hc hsib)
        clear hc hsib
        go_wp2
        go_quiet (fail)
        have hc := HC.out.1
        have hsib := HC.out.2
        replace hh1 := hh1.drewN nq
        generalize wr.drewN nq = wx at *
        have hcm : ∀ c', 1 ≤ c' → c' < hi → (c' - 1) / 2 = r → f1 (s + c') ≤ f1 (s + c) := fun c' h1 h2 h3 => by
          obtain rfl : c' = c := by omega
          exact Int.le_refl _
        have hcr : (c - 1) / 2 = r := by omega
        have hcn : c < hi := by omega
        have hcp : 1 ≤ c := by omega
        clear hc k2 hsib HC
        obtain ⟨q, hq⟩ : ∃ q, q = s + r := ⟨_, rfl⟩
        obtain ⟨p, hp⟩ : ∃ p, p = s + c := ⟨_, rfl⟩
        have cR := rd2 hh1 (i := q) (by omega)
        have cC := rd2 hh1 (i := p) (by omega)
        have eR := hh1.1.free q
        have eC := hh1.1.free p
        obtain ⟨x, hx⟩ : ∃ x, x = f1 q := ⟨_, rfl⟩
        obtain ⟨y, hy⟩ : ∃ y, y = f1 p := ⟨_, rfl⟩
        rw [← hx] at cR
        rw [← hy] at cC
        have HS := Lib.hid (And.intro hs1 (And.intro hx1 hh1))
        have HX := Lib.hid (And.intro hx hy)
        have k3 : (q : Int) < (n : Int) := by omega
        have k4 : (p : Int) < (n : Int) := by omega
        have k5 : IntKind.i64.wrap (q : Int) = (q : Int) := wr64 (by omega) (by omega)
        have k6 : IntKind.i64.wrap (p : Int) = (p : Int) := wr64 (by omega) (by omega)
        have k7 : (s : Int) + (r : Int) = (q : Int) := by omega
        have k8 : (s : Int) + (c : Int) = (p : Int) := by omega
        have k9 : (r : Int) + 1 ≤ (c : Int) := by omega
        have k10 : (c : Int) ≤ 9223372036854775807 := by omega
        have HQ := Lib.hid (And.intro hq (And.intro hp (And.intro hcm (And.intro hcr (And.intro hcn hcp)))))
        clear hs1 hx1 hh1 hx hy hq hp hcm hcr hcn hcp
        by_cases hl : x < y
        · go_wp2
          go_quiet (first | (go_at_call 66; refine Calls.quiet_of_same (less_yes hl _)))
          go_wp2
          go_region
          all_goals go_wp2
          go_roundw
          case rel =>
            refine ⟨c, rfl, by have := HQ.out.2.2.2.1; omega, .inr HQ.out.2.2.2.2.1, Lib.hid ⟨sw f1 q p, HS.out.1.trans (.one f1 (by have := HQ.out.1; omega) (by have := HQ.out.1; have := HQ.out.2.2; omega) (by have := HQ.out.2.1; omega) (by have := HQ.out.2.1; have := HQ.out.2.2; omega)), ?_, HS.out.2.2.swp _ (by omega) (by omega) HX.out.1 HX.out.2⟩⟩
            rw [HQ.out.1, HQ.out.2.1]
            exact hpx_step HS.out.2.1 hr1 HQ.out.2.2.2.1 HQ.out.2.2.2.2.2 HQ.out.2.2.2.2.1 HQ.out.2.2.1 (by rw [← HQ.out.2.1, ← HQ.out.1, ← HX.out.1, ← HX.out.2]; exact hl)
          case measure => have := HQ.out.2.2.2.2.1; simp [intOf] <;> omega
        · have HE := Lib.hid (show ∀ q', Sift w B g cap n s lo hi f (wx.drewN q') from fun q' => ⟨f1, HS.out.1, hpx_end HS.out.2.1 (fun c' h1 h2 h3 => Int.le_trans (HQ.out.2.2.1 c' h1 h2 h3) (by rw [← HQ.out.2.1, ← HQ.out.1, ← HX.out.1, ← HX.out.2]; omega)), HS.out.2.2.drewN _⟩)
          have hd : decide (x < y) = false := decide_eq_false hl
          clear hl
          go_wp2
          go_quiet (first | (go_at_call 66; refine Calls.quiet_of_same (less_any _ _ _)))
          go_wp2
          exact bodyPost_ret (v := .tuple #[]) (results_none rfl _ _ _) rfl ⟨rfl, HE.out _⟩
      · obtain ⟨d, hd⟩ : ∃ d, d = c + 1 := ⟨_, rfl⟩
        obtain ⟨p1, hp1⟩ : ∃ p1, p1 = s + c := ⟨_, rfl⟩
        obtain ⟨p2, hp2⟩ : ∃ p2, p2 = s + d := ⟨_, rfl⟩
        have c1 := rd2 hh1 (i := p1) (by omega)
        have c2 := rd2 hh1 (i := p2) (by omega)
        obtain ⟨x1, hx1'⟩ : ∃ x1, x1 = f1 p1 := ⟨_, rfl⟩
        obtain ⟨x2, hx2'⟩ : ∃ x2, x2 = f1 p2 := ⟨_, rfl⟩
        rw [← hx1'] at c1
        rw [← hx2'] at c2
        have k2 : (d : Int) < (hi : Int) := by omega
        have k3 : (p1 : Int) < (n : Int) := by omega
        have k4 : (p2 : Int) < (n : Int) := by omega
        have k5 : IntKind.i64.wrap (p1 : Int) = (p1 : Int) := wr64 (by omega) (by omega)
        have k6 : IntKind.i64.wrap (p2 : Int) = (p2 : Int) := wr64 (by omega) (by omega)
        have k7 : (s : Int) + (c : Int) = (p1 : Int) := by omega
        have k8 : (p1 : Int) + 1 = (p2 : Int) := by omega
        have k9 : (c : Int) + 1 = (d : Int) := by omega
        have HQ := Lib.hid (And.intro hp1 (And.intro hp2 (And.intro hd hc)))
        have HX := Lib.hid (And.intro hx1' hx2')
        have HS := Lib.hid (And.intro hs1 (And.intro hx1 hh1))
        clear hs1 hx1 hh1 hp1 hp2 hd hc hx1' hx2'
        go_wp2
        go_quiet (first | (go_at_call 66; refine Calls.quiet_of_same (less_any _ _ _)))
        have hh1 := HS.out.2.2.drewN nq
        have hs1 := HS.out.1
        have hx1 := HS.out.2.1
        clear HS c1 c2
        generalize wr.drewN nq = wx at *
        go_wp2
        · have hl : x1 < x2 := by assumption
          have hcm : ∀ c', 1 ≤ c' → c' < hi → (c' - 1) / 2 = r → f1 (s + c') ≤ f1 (s + d) := fun c' h1 h2 h3 => by
            have e1 := HX.out.1
            have e2 := HX.out.2
            rw [HQ.out.1] at e1
            rw [HQ.out.2.1] at e2
            have hd := HQ.out.2.2.1
            have hc := HQ.out.2.2.2
            by_cases e : c' = c
            · subst e; omega
            · obtain rfl : c' = d := by omega
              exact Int.le_refl _
          have hcr : (d - 1) / 2 = r := by have hd := HQ.out.2.2.1; have hc := HQ.out.2.2.2; omega
          have hcn : d < hi := by omega
          have hcp : 1 ≤ d := by omega
          have hc1 : 2 * r + 2 = d := by have hd := HQ.out.2.2.1; have hc := HQ.out.2.2.2; omega
          clear HQ HX hl k3 k4 k5 k6 k7 k8 k0 k1 k9 hch hsib kc
          clear hc1
          generalize d = c at *
          obtain ⟨q, hq⟩ : ∃ q, q = s + r := ⟨_, rfl⟩
          obtain ⟨p, hp⟩ : ∃ p, p = s + c := ⟨_, rfl⟩
          have cR := rd2 hh1 (i := q) (by omega)
          have cC := rd2 hh1 (i := p) (by omega)
          have eR := hh1.1.free q
          have eC := hh1.1.free p
          obtain ⟨x, hx⟩ : ∃ x, x = f1 q := ⟨_, rfl⟩
          obtain ⟨y, hy⟩ : ∃ y, y = f1 p := ⟨_, rfl⟩
          rw [← hx] at cR
          rw [← hy] at cC
          have HS := Lib.hid (And.intro hs1 (And.intro hx1 hh1))
          have HX := Lib.hid (And.intro hx hy)
          have k3 : (q : Int) < (n : Int) := by omega
          have k4 : (p : Int) < (n : Int) := by omega
          have k5 : IntKind.i64.wrap (q : Int) = (q : Int) := wr64 (by omega) (by omega)
          have k6 : IntKind.i64.wrap (p : Int) = (p : Int) := wr64 (by omega) (by omega)
          have k7 : (s : Int) + (r : Int) = (q : Int) := by omega
          have k8 : (s : Int) + (c : Int) = (p : Int) := by omega
          have k9 : (r : Int) + 1 ≤ (c : Int) := by omega
          have k10 : (c : Int) ≤ 9223372036854775807 := by omega
          have HQ := Lib.hid (And.intro hq (And.intro hp (And.intro hcm (And.intro hcr (And.intro hcn hcp)))))
          clear hs1 hx1 hh1 hx hy hq hp hcm hcr hcn hcp
          by_cases hl : x < y
          · go_wp2
            go_quiet (first | (go_at_call 66; refine Calls.quiet_of_same (less_yes hl _)))
            go_wp2
            go_region
            all_goals go_wp2
            go_roundw
            case rel =>
              refine ⟨c, rfl, by have := HQ.out.2.2.2.1; omega, .inr HQ.out.2.2.2.2.1, Lib.hid ⟨sw f1 q p, HS.out.1.trans (.one f1 (by have := HQ.out.1; omega) (by have := HQ.out.1; have := HQ.out.2.2; omega) (by have := HQ.out.2.1; omega) (by have := HQ.out.2.1; have := HQ.out.2.2; omega)), ?_, HS.out.2.2.swp _ (by omega) (by omega) HX.out.1 HX.out.2⟩⟩
              rw [HQ.out.1, HQ.out.2.1]
              exact hpx_step HS.out.2.1 hr1 HQ.out.2.2.2.1 HQ.out.2.2.2.2.2 HQ.out.2.2.2.2.1 HQ.out.2.2.1 (by rw [← HQ.out.2.1, ← HQ.out.1, ← HX.out.1, ← HX.out.2]; exact hl)
            case measure => have := HQ.out.2.2.2.2.1; simp [intOf] <;> omega
          · have HE := Lib.hid (show ∀ q', Sift w B g cap n s lo hi f (wx.drewN q') from fun q' => ⟨f1, HS.out.1, hpx_end HS.out.2.1 (fun c' h1 h2 h3 => Int.le_trans (HQ.out.2.2.1 c' h1 h2 h3) (by rw [← HQ.out.2.1, ← HQ.out.1, ← HX.out.1, ← HX.out.2]; omega)), HS.out.2.2.drewN _⟩)
            have hd : decide (x < y) = false := decide_eq_false hl
            clear hl
            go_wp2
            go_quiet (first | (go_at_call 66; refine Calls.quiet_of_same (less_any _ _ _)))
            go_wp2
            exact bodyPost_ret (v := .tuple #[]) (results_none rfl _ _ _) rfl ⟨rfl, HE.out _⟩
        · have hl : x2 ≤ x1 := by assumption
          have hcm : ∀ c', 1 ≤ c' → c' < hi → (c' - 1) / 2 = r → f1 (s + c') ≤ f1 (s + c) := fun c' h1 h2 h3 => by
            have e1 := HX.out.1
            have e2 := HX.out.2
            rw [HQ.out.1] at e1
            rw [HQ.out.2.1] at e2
            have hd := HQ.out.2.2.1
            have hc := HQ.out.2.2.2
            by_cases e : c' = d
            · subst e; omega
            · obtain rfl : c' = c := by omega
              exact Int.le_refl _
          have hcr : (c - 1) / 2 = r := by have hd := HQ.out.2.2.1; have hc := HQ.out.2.2.2; omega
          have hcn : c < hi := by omega
          have hcp : 1 ≤ c := by omega
          clear HQ HX hl k3 k4 k5 k6 k7 k8 k0 k1 k9 k2 hch hsib kc
          obtain ⟨q, hq⟩ : ∃ q, q = s + r := ⟨_, rfl⟩
          obtain ⟨p, hp⟩ : ∃ p, p = s + c := ⟨_, rfl⟩
          have cR := rd2 hh1 (i := q) (by omega)
          have cC := rd2 hh1 (i := p) (by omega)
          have eR := hh1.1.free q
          have eC := hh1.1.free p
          obtain ⟨x, hx⟩ : ∃ x, x = f1 q := ⟨_, rfl⟩
          obtain ⟨y, hy⟩ : ∃ y, y = f1 p := ⟨_, rfl⟩
          rw [← hx] at cR
          rw [← hy] at cC
          have HS := Lib.hid (And.intro hs1 (And.intro hx1 hh1))
          have HX := Lib.hid (And.intro hx hy)
          have k3 : (q : Int) < (n : Int) := by omega
          have k4 : (p : Int) < (n : Int) := by omega
          have k5 : IntKind.i64.wrap (q : Int) = (q : Int) := wr64 (by omega) (by omega)
          have k6 : IntKind.i64.wrap (p : Int) = (p : Int) := wr64 (by omega) (by omega)
          have k7 : (s : Int) + (r : Int) = (q : Int) := by omega
          have k8 : (s : Int) + (c : Int) = (p : Int) := by omega
          have k9 : (r : Int) + 1 ≤ (c : Int) := by omega
          have k10 : (c : Int) ≤ 9223372036854775807 := by omega
          have HQ := Lib.hid (And.intro hq (And.intro hp (And.intro hcm (And.intro hcr (And.intro hcn hcp)))))
          clear hs1 hx1 hh1 hx hy hq hp hcm hcr hcn hcp
          by_cases hl : x < y
          · go_wp2
            go_quiet (first | (go_at_call 66; refine Calls.quiet_of_same (less_yes hl _)))
            go_wp2
            go_region
            all_goals go_wp2
            go_roundw
            case rel =>
              refine ⟨c, rfl, by have := HQ.out.2.2.2.1; omega, .inr HQ.out.2.2.2.2.1, Lib.hid ⟨sw f1 q p, HS.out.1.trans (.one f1 (by have := HQ.out.1; omega) (by have := HQ.out.1; have := HQ.out.2.2; omega) (by have := HQ.out.2.1; omega) (by have := HQ.out.2.1; have := HQ.out.2.2; omega)), ?_, HS.out.2.2.swp _ (by omega) (by omega) HX.out.1 HX.out.2⟩⟩
              rw [HQ.out.1, HQ.out.2.1]
              exact hpx_step HS.out.2.1 hr1 HQ.out.2.2.2.1 HQ.out.2.2.2.2.2 HQ.out.2.2.2.2.1 HQ.out.2.2.1 (by rw [← HQ.out.2.1, ← HQ.out.1, ← HX.out.1, ← HX.out.2]; exact hl)
            case measure => have := HQ.out.2.2.2.2.1; simp [intOf] <;> omega
          · have HE := Lib.hid (show ∀ q', Sift w B g cap n s lo hi f (wx.drewN q') from fun q' => ⟨f1, HS.out.1, hpx_end HS.out.2.1 (fun c' h1 h2 h3 => Int.le_trans (HQ.out.2.2.1 c' h1 h2 h3) (by rw [← HQ.out.2.1, ← HQ.out.1, ← HX.out.1, ← HX.out.2]; omega)), HS.out.2.2.drewN _⟩)
            have hd : decide (x < y) = false := decide_eq_false hl
            clear hl
            go_wp2
            go_quiet (first | (go_at_call 66; refine Calls.quiet_of_same (less_any _ _ _)))
            go_wp2
            exact bodyPost_ret (v := .tuple #[]) (results_none rfl _ _ _) rfl ⟨rfl, HE.out _⟩
end Go.Proofs.Ytgjjfodogkcmmaa.So
