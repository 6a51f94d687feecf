/- The sort of numbers: heapsort, walked. -/
import Derived.Test.YtgjjfodogkcmmaaS3
namespace Go.Proofs.Ytgjjfodogkcmmaa.So
open Go Go.RowKit
/-- Behind a store the row's cells are still there. -/
theorem Own.set2 {w : World} {B g cap n i j : Nat} {f : Fn} (h : Own w B g cap n f) (hj : j < n) (u : Value) : (∃ v, (w.setCell ⟨g, i, none⟩ u).cell? ⟨g, j, none⟩ = some v) ∧ (w.setCell ⟨g, i, none⟩ u).frozen? ⟨g, j, none⟩ = false := by
  obtain ⟨cur, h1, _, _, _, h2⟩ := h.block
  have hb := heap_setCell_same w g i cur 24 u h1
  have hs : j < (cur.setIfInBounds i u).size := by
    rw [Array.size_setIfInBounds]
    exact (Array.getElem?_eq_some_iff.1 (h2 j hj)).1
  exact ⟨⟨(cur.setIfInBounds i u)[j], by simp only [World.cell?, hb]; simp [Array.getElem?_eq_getElem hs]⟩, by simp [World.frozen?, hb]⟩
set_option maxRecDepth 100000 in
set_option maxHeartbeats 2000000 in
theorem heap_any (B g cap n a b : Nat) (f : Fn) (w : World) (h : Own w B g cap n f) (hn : n ≤ 1152921504606846975) (hab : a < b) (hb : b ≤ n) :
    Calls Try.prog 61 #[.slice (some ⟨g, 0, none⟩) n cap, .int .i64 a, .int .i64 b] w fun e w' => e = .returned (.tuple #[]) ∧ Done w B g cap n a b f w' := by
  obtain ⟨L, hL⟩ : ∃ L, L = b - a := ⟨_, rfl⟩
  obtain ⟨m, hm⟩ : ∃ m, m = (L - 1) / 2 := ⟨_, rfl⟩
  have H := Lib.hid (Has.refl h)
  have kL : (b : Int) - (a : Int) = (L : Int) := by omega
  have kL1 : (L : Int) ≤ 1152921504606846975 := by omega
  have kL2 : (1 : Int) ≤ (L : Int) := by omega
  have km : ((L : Int) - 1) / 2 = (m : Int) := by omega
  have kt : ((L : Int) - 1).tdiv 2 = (m : Int) := by rw [Int.tdiv_eq_ediv_of_nonneg (by omega)]; omega
  have HM := Lib.hid (And.intro hL hm)
  clear h hL hm
  go_enter Try.func61, Try.ntmps61
  go_wp2
  go_loopw [9] (fun u wr => ∃ k : Nat, u = .int .i64 ((k : Int) - 1) ∧ k ≤ m + 1 ∧ Hid (∃ f', Sw a b f f' ∧ Hp a k L f' ∧ Has w B g cap n f' wr)) (fun u _ => (intOf u + 1).toNat)
  case atStart =>
    exact ⟨m + 1, by go_num, Nat.le_refl _, Lib.hid ⟨f, .refl f, hp_none f (by have := HM.out.1; have := HM.out.2; omega), H.out⟩⟩
  case round =>
    obtain ⟨k, rfl, hk, HK⟩ := hrel
    clear H
    by_cases h0 : 1 ≤ k
    · obtain ⟨r, rfl⟩ : ∃ r, k = r + 1 := ⟨k - 1, by omega⟩
      have kr : ((r + 1 : Nat) : Int) - 1 = (r : Int) := by omega
      simp only [kr]
      have kr0 : (0 : Int) ≤ (r : Int) := by omega
      have HS := Lib.hid (show ∀ f', Sw a b f f' → Hp a (r + 1) L f' → Has w B g cap n f' wr → Calls Try.prog 76 #[.slice (some ⟨g, 0, none⟩) n cap, .int .i64 r, .int .i64 L, .int .i64 a] wr fun e w' => e = .returned (.tuple #[]) ∧ ∃ f', Sw a b f f' ∧ Hp a r L f' ∧ Has w B g cap n f' w' from fun f' h1 h2 h3 => by
        refine (sift_any B g cap n a r L f' wr h3.1 hn (by have := HM.out.1; omega) (by have := HM.out.1; have := HM.out.2; omega) (hp_weak h2 rfl)).mono ?_
        rintro e w' ⟨rfl, f2, h4, h5, h6⟩
        exact ⟨rfl, f2, h1.trans (h4.mono (Nat.le_refl _) (by have := HM.out.1; omega)), h5, h3.trans h6⟩)
      go_wp2_with (first | (go_at_call 76; obtain ⟨f', h1, h2, h3⟩ := HK.out; refine (HS.out f' h1 h2 h3).mono ?_; rintro e w' ⟨rfl, h4⟩; have H4 := Lib.hid h4; clear h4 h1 h2 h3))
      go_roundw
      case rel => exact ⟨r, by go_num, by omega, H4⟩
      case measure => simp [intOf] <;> omega
    · obtain rfl : k = 0 := by omega
      have HP := Lib.hid (show ∃ f', Sw a b f f' ∧ Pop a L L f' ∧ Has w B g cap n f' wr by obtain ⟨f', h1, h2, h3⟩ := HK.out; exact ⟨f', h1, pop_start h2, h3⟩)
      clear HK
      simp only [show (((0 : Nat) : Int) - 1) = -1 from rfl]
      go_wp2
      go_loopw [10] (fun u wr => ∃ k : Nat, u = .int .i64 ((k : Int) - 1) ∧ k ≤ L ∧ Hid (∃ f', Sw a b f f' ∧ Pop a L k f' ∧ Has w B g cap n f' wr)) (fun u _ => (intOf u + 1).toNat)
      case atStart => exact ⟨L, rfl, Nat.le_refl _, HP⟩
      case round =>
        obtain ⟨k, rfl, hk, HK⟩ := hrel
        clear HP
        by_cases h0 : 1 ≤ k
        · obtain ⟨i, rfl⟩ : ∃ i, k = i + 1 := ⟨k - 1, by omega⟩
          have kr : ((i + 1 : Nat) : Int) - 1 = (i : Int) := by omega
          simp only [kr]
          have ki0 : (0 : Int) ≤ (i : Int) := by omega
          obtain ⟨f1, hs1, hp1, hh1⟩ := HK.out
          clear HK
          obtain ⟨q, hq⟩ : ∃ q, q = a + i := ⟨_, rfl⟩
          have cA := rd2 hh1 (i := a) (by omega)
          have cQ := rd2 hh1 (i := q) (by have := HM.out.1; omega)
          have eA := hh1.1.free a
          have eQ := hh1.1.free q
          obtain ⟨x, hx⟩ : ∃ x, x = f1 a := ⟨_, rfl⟩
          obtain ⟨y, hy⟩ : ∃ y, y = f1 q := ⟨_, rfl⟩
          rw [← hx] at cA
          rw [← hy] at cQ
          have k3 : (q : Int) < (n : Int) := by have := HM.out.1; omega
          have k4 : (a : Int) < (n : Int) := by omega
          have k5 : IntKind.i64.wrap (q : Int) = (q : Int) := wr64 (by omega) (by omega)
          have k7 : (a : Int) + (i : Int) = (q : Int) := by omega
          have k8 : (q : Int) ≤ 1152921504606846975 := by omega
          obtain ⟨⟨v2, cQ2⟩, eQ2⟩ := hh1.1.set2 (i := a) (j := q) (by have := HM.out.1; omega) (.int .u32 y)
          have hsw := fun z => hh1.swp z (i := a) (j := q) (by omega) (by have := HM.out.1; omega) hx hy
          obtain ⟨p1, p2, p3⟩ := pop_sw hp1 (by omega)
          rw [← hq] at p1 p2 p3
          have HS := Lib.hid (show ∀ z, Calls Try.prog 76 #[.slice (some ⟨g, 0, none⟩) n cap, .int .i64 (0 : Nat), .int .i64 i, .int .i64 a] (((wr.drewN z).setCell ⟨g, a, none⟩ (.int .u32 y)).setCell ⟨g, q, none⟩ (.int .u32 x)) fun e w' => e = .returned (.tuple #[]) ∧ ∃ f', Sw a b f f' ∧ Pop a L i f' ∧ Has w B g cap n f' w' from fun z => by
            refine (sift_any B g cap n a 0 i _ _ (hsw z).1 hn (by have := HM.out.1; omega) (by omega) p1).mono ?_
            rintro e w' ⟨rfl, f2, h4, h5, h6⟩
            refine ⟨rfl, f2, hs1.trans ((Sw.one f1 (Nat.le_refl a) hab (by omega) (by have := HM.out.1; omega)).trans (h4.mono (Nat.le_refl _) (by have := HM.out.1; omega))), pop_sift (by rw [← hq]; exact p2) p3 h4 h5, (hsw z).trans h6⟩)
          clear hs1 hp1 hh1 hx hy hsw p1 p2 p3 hq
          go_wp2
          go_region
          all_goals go_wp2_with (first | (go_at_call 76; refine (HS.out _).mono ?_; rintro e w' ⟨rfl, h4⟩; have H4 := Lib.hid h4; clear h4))
          go_roundw
          case rel => exact ⟨i, by go_num, by omega, H4⟩
          case measure => simp [intOf] <;> omega
        · obtain rfl : k = 0 := by omega
          have HE := Lib.hid (show Done w B g cap n a b f wr by obtain ⟨f', h1, h2, h3⟩ := HK.out; exact ⟨f', h1, by have := pop_end h2; rwa [show a + L = b by have := HM.out.1; omega] at this, h3⟩)
          clear HK
          simp only [show (((0 : Nat) : Int) - 1) = -1 from rfl]
          go_wp2
          go_end0
          exact ⟨rfl, HE.out⟩
end Go.Proofs.Ytgjjfodogkcmmaa.So
