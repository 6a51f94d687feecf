/- The sort of numbers: patterns are broken, walked. -/
import Derived.Test.YtgjjfodogkcmmaaS9
namespace Go.Proofs.Ytgjjfodogkcmmaa.So
open Go Go.RowKit
set_option maxRecDepth 100000 in
set_option maxHeartbeats 4000000 in
theorem break_any (B g cap n a b : Nat) (f : Fn) (w : World) (h : Own w B g cap n f) (hn : n ≤ 1152921504606846975) (hab : a + 12 < b) (hb : b ≤ n) :
    Calls Try.prog 62 #[.slice (some ⟨g, 0, none⟩) n cap, .int .i64 a, .int .i64 b] w fun e w' => e = .returned (.tuple #[]) ∧ ∃ f', Sw a b f f' ∧ Has w B g cap n f' w' := by
  obtain ⟨L, hL⟩ : ∃ L, L = b - a := ⟨_, rfl⟩
  obtain ⟨q, hq⟩ : ∃ q, q = L / 4 := ⟨_, rfl⟩
  obtain ⟨j, hj⟩ : ∃ j, j = a + q * 2 := ⟨_, rfl⟩
  obtain ⟨i0, hi0⟩ : ∃ i0, j = i0 + 1 := ⟨j - 1, by omega⟩
  have kL : (b : Int) - (a : Int) = (L : Int) := by omega
  have kq : (L : Int) / 4 = (q : Int) := by omega
  have kt : (L : Int).tdiv 4 = (q : Int) := by rw [Int.tdiv_eq_ediv_of_nonneg (by omega)]; omega
  have kj : (a : Int) + (q : Int) * 2 = (j : Int) := by omega
  have ki : (j : Int) - 1 = (i0 : Int) := by omega
  have k8 : (8 : Int) ≤ (L : Int) := by omega
  have k9 : (L : Int) ≤ 1152921504606846975 := by omega
  have b2 : (j : Int) ≤ 1152921504606846975 := by omega
  have kL0 : ((L : Int) % 18446744073709551616) = (L : Int) := by omega
  have kw : IntKind.u64.wrap (L : Int) = (L : Int) := by simp [IntKind.wrap, IntKind.bits, IntKind.signed]; omega
  have HI : Hid (a ≤ i0 ∧ i0 + 2 < b ∧ a + L = b ∧ j = i0 + 1) := Lib.hid (by omega)
  have hg := h.lt
  have hp : w.heap.size ≠ g := by omega
  have HP := Lib.hid hp
  have H0 := Lib.hid (show Has w B g cap n f (w.alloc (.cells #[.int .u64 L] 137)) from ⟨h.on (G := fun _ => False) (.of_grown (World.grownBy_alloc w _ none) (fun k e => by cases e)) id, .of_grown (World.grownBy_alloc w _ none) (fun k e => by cases e)⟩)
  have R0 := Lib.hid (show Rnd (w.alloc (.cells #[.int .u64 L] 137)) w.heap.size from ⟨L, by omega, heap_alloc_new w _⟩)
  clear hL hq hj hi0 h hp
  go_enter Try.func62, Try.ntmps62
  go_wp2_with (fail)
  refine (npt_any L (by omega) (by omega) _).mono ?_
  rintro e _ ⟨⟨M, rfl, hM1, hM2⟩, rfl⟩
  go_wp2_with (fail)
  go_loopw [9] (fun u wr => ∃ t : Nat, t ≤ 3 ∧ u = .int .i64 ((i0 + t : Nat) : Int) ∧ Hid (∃ f', Sw a b f f' ∧ Has w B g cap n f' wr ∧ Rnd wr w.heap.size)) (fun u _ => i0 + 3 - (intOf u).toNat)
  case atStart => exact ⟨0, by omega, rfl, Lib.hid ⟨f, .refl f, H0.out, R0.out⟩⟩
  case round =>
    obtain ⟨t, ht, rfl, HT⟩ := hrel
    clear H0 R0
    obtain ⟨ix, hix⟩ : ∃ ix, ix = i0 + t := ⟨_, rfl⟩
    rw [← hix]
    by_cases h3 : t < 3
    · have kx : (ix : Int) ≤ (j : Int) + 1 := by have := HI.out; omega
      obtain ⟨f1, hs1, hh1, hr1⟩ := HT.out
      have HS1 := Lib.hid (And.intro hs1 hh1)
      have HR1 := Lib.hid hr1
      clear hs1 hh1 hr1 HT
      have HIX := Lib.hid hix
      clear hix
      go_wp2_with (fail)
      refine (next_any w.heap.size wr HR1.out).mono ?_
      rintro e w2 ⟨R, rfl, hR, hr2, ht2⟩
      have hs1 := HS1.out.1
      have hh1 : Has w B g cap n f1 w2 := ⟨HS1.out.2.1.on ht2 (fun e => HP.out e.symm), HS1.out.2.2.trans ht2 (fun i hi => .inr (by omega))⟩
      clear HS1 HR1 ht2
      obtain ⟨O, hO⟩ : ∃ O : Nat, O = R &&& (M - 1) := ⟨_, rfl⟩
      have lO : O ≤ M - 1 := by rw [hO]; exact Nat.and_le_right
      have eAnd : bits .and .u64 (R : Int) ((M : Int) - 1) = (O : Int) := by
        rw [show ((M : Int) - 1) = ((M - 1 : Nat) : Int) by omega, bits_and_u64_nat _ _ hR (by omega), hO]
      have kM : IntKind.u64.wrap ((M : Int) - 1) = (M : Int) - 1 := by simp [IntKind.wrap, IntKind.bits, IntKind.signed]; omega
      have kO : IntKind.i64.wrap (O : Int) = (O : Int) := wr64 (by omega) (by omega)
      have kO2 : (O : Int) ≤ 9223372036854775807 := by omega
      have kM1 : (1 : Int) ≤ (M : Int) := by omega
      have kM2 : (M : Int) ≤ 18446744073709551615 := by omega
      have HO := Lib.hid (And.intro lO (And.intro hM1 (And.intro hM2 HI.out)))
      have hix := HIX.out
      clear hO
      by_cases hge : L ≤ O
      · obtain ⟨o2, ho2⟩ : ∃ o2, O = L + o2 := ⟨O - L, by omega⟩
        have ko : (O : Int) - (L : Int) = (o2 : Int) := by omega
        have kge : (L : Int) ≤ (O : Int) := by omega
        obtain ⟨p2, hp2⟩ : ∃ p2, p2 = a + o2 := ⟨_, rfl⟩
        have kp : (a : Int) + (o2 : Int) = (p2 : Int) := by omega
        have kp2 : IntKind.i64.wrap (p2 : Int) = (p2 : Int) := wr64 (by omega) (by omega)
        have kp3 : (p2 : Int) ≤ 1152921504606846975 := by omega
        have ipx : a ≤ p2 ∧ p2 < b ∧ a ≤ ix ∧ ix < b := by have := HI.out; omega
        have hIX := Lib.hid hix
        clear ho2 hp2 hix lO hM1 hM2
        obtain ⟨ip1, ip2, ip3, ip4⟩ := ipx
        have csi := rd2 hh1 (i := ix) (by omega)
        have csj := rd2 hh1 (i := p2) (by omega)
        have esi := hh1.1.free (ix)
        have esj := hh1.1.free (p2)
        obtain ⟨xs, hxs⟩ : ∃ x, x = f1 (ix) := ⟨_, rfl⟩
        obtain ⟨ys, hys⟩ : ∃ y, y = f1 (p2) := ⟨_, rfl⟩
        rw [← hxs] at csi
        rw [← hys] at csj
        obtain ⟨⟨vs, cs2⟩, es2⟩ := hh1.1.set2 (i := ix) (j := p2) (by omega) (.int .u32 ys)
        have ksi : ((ix : Nat) : Int) < (n : Int) := by omega
        have ksj : ((p2 : Nat) : Int) < (n : Int) := by omega
        have HWs := Lib.hid (fun z => hh1.swp z (i := ix) (j := p2) (by omega) (by omega) hxs hys)
        clear hxs hys
        have HS := Lib.hid (hs1.trans (Sw.one f1 (i := ix) (j := p2) (by omega) (by omega) (by omega) (by omega)))
        have HR := Lib.hid (show ∀ z, Rnd (((w2.drewN z).setCell ⟨g, ix, none⟩ (.int .u32 ys)).setCell ⟨g, p2, none⟩ (.int .u32 xs)) w.heap.size from fun z => by
          obtain ⟨X, hX, hb⟩ := hr2
          exact ⟨X, hX, by rw [heap_setCell_other _ _ _ _ (by show w.heap.size ≠ g; exact HP.out), heap_setCell_other _ _ _ _ (by show w.heap.size ≠ g; exact HP.out)]; exact hb⟩)
        clear hs1 hh1 hr2
        go_wp2
        go_region
        all_goals go_wp2
        go_roundw
        case rel => exact ⟨t + 1, by omega, by have := hIX.out; congr 1; omega, Lib.hid ⟨_, HS.out, HWs.out _, HR.out _⟩⟩
        case measure => have := hIX.out; simp [intOf] <;> omega
      · obtain ⟨p2, hp2⟩ : ∃ p2, p2 = a + O := ⟨_, rfl⟩
        have kge : ¬ ((L : Int) ≤ (O : Int)) := by omega
        have kp : (a : Int) + (O : Int) = (p2 : Int) := by omega
        have kp2 : IntKind.i64.wrap (p2 : Int) = (p2 : Int) := wr64 (by omega) (by omega)
        have kp3 : (p2 : Int) ≤ 1152921504606846975 := by omega
        have ipx : a ≤ p2 ∧ p2 < b ∧ a ≤ ix ∧ ix < b := by have := HI.out; omega
        have hIX := Lib.hid hix
        clear hp2 hix lO hM1 hM2
        obtain ⟨ip1, ip2, ip3, ip4⟩ := ipx
        have csi := rd2 hh1 (i := ix) (by omega)
        have csj := rd2 hh1 (i := p2) (by omega)
        have esi := hh1.1.free (ix)
        have esj := hh1.1.free (p2)
        obtain ⟨xs, hxs⟩ : ∃ x, x = f1 (ix) := ⟨_, rfl⟩
        obtain ⟨ys, hys⟩ : ∃ y, y = f1 (p2) := ⟨_, rfl⟩
        rw [← hxs] at csi
        rw [← hys] at csj
        obtain ⟨⟨vs, cs2⟩, es2⟩ := hh1.1.set2 (i := ix) (j := p2) (by omega) (.int .u32 ys)
        have ksi : ((ix : Nat) : Int) < (n : Int) := by omega
        have ksj : ((p2 : Nat) : Int) < (n : Int) := by omega
        have HWs := Lib.hid (fun z => hh1.swp z (i := ix) (j := p2) (by omega) (by omega) hxs hys)
        clear hxs hys
        have HS := Lib.hid (hs1.trans (Sw.one f1 (i := ix) (j := p2) (by omega) (by omega) (by omega) (by omega)))
        have HR := Lib.hid (show ∀ z, Rnd (((w2.drewN z).setCell ⟨g, ix, none⟩ (.int .u32 ys)).setCell ⟨g, p2, none⟩ (.int .u32 xs)) w.heap.size from fun z => by
          obtain ⟨X, hX, hb⟩ := hr2
          exact ⟨X, hX, by rw [heap_setCell_other _ _ _ _ (by show w.heap.size ≠ g; exact HP.out), heap_setCell_other _ _ _ _ (by show w.heap.size ≠ g; exact HP.out)]; exact hb⟩)
        clear hs1 hh1 hr2
        go_wp2
        go_region
        all_goals go_wp2
        go_roundw
        case rel => exact ⟨t + 1, by omega, by have := hIX.out; congr 1; omega, Lib.hid ⟨_, HS.out, HWs.out _, HR.out _⟩⟩
        case measure => have := hIX.out; simp [intOf] <;> omega
    · obtain rfl : t = 3 := by omega
      have kx : ¬ ((ix : Int) ≤ (j : Int) + 1) := by have := HI.out; omega
      clear hix
      go_wp2_with (fail)
      go_end0
      obtain ⟨f1, h1, h2, _⟩ := HT.out
      exact ⟨rfl, f1, h1, h2⟩
end Go.Proofs.Ytgjjfodogkcmmaa.So
