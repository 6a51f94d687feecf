/- The sort of numbers: parted by what is less, walked. -/
import Derived.Test.YtgjjfodogkcmmaaS5
namespace Go.Proofs.Ytgjjfodogkcmmaa.So
open Go Go.RowKit
set_option maxRecDepth 100000 in
set_option maxHeartbeats 8000000 in
theorem part_any (B g cap n a b p : Nat) (f : Fn) (w : World) (h : Own w B g cap n f) (hn : n ≤ 1152921504606846975) (hap : a ≤ p) (hpb : p < b) (hb : b ≤ n) :
    Calls Try.prog 68 #[.slice (some ⟨g, 0, none⟩) n cap, .int .i64 a, .int .i64 b, .int .i64 p] w fun e w' => ∃ (m : Nat) (t : Bool), e = .returned (.tuple #[.int .i64 m, .bool t]) ∧ a ≤ m ∧ m < b ∧ ∃ f', Sw a b f f' ∧ Cut a b m f' ∧ Has w B g cap n f' w' := by
  have hh0 := Has.refl h
  have csi := rd2 hh0 (i := a) (by omega)
  have csj := rd2 hh0 (i := p) (by omega)
  have esi := hh0.1.free (a)
  have esj := hh0.1.free (p)
  obtain ⟨xs, hxs⟩ : ∃ x, x = f (a) := ⟨_, rfl⟩
  obtain ⟨ys, hys⟩ : ∃ y, y = f (p) := ⟨_, rfl⟩
  rw [← hxs] at csi
  rw [← hys] at csj
  obtain ⟨⟨vs, cs2⟩, es2⟩ := hh0.1.set2 (i := a) (j := p) (by omega) (.int .u32 ys)
  have ksi : ((a : Nat) : Int) < (n : Int) := by omega
  have ksj : ((p : Nat) : Int) < (n : Int) := by omega
  have HWs := Lib.hid (fun z => hh0.swp z (i := a) (j := p) (by omega) (by omega) hxs hys)
  clear hxs hys
  have HSW := Lib.hid (Sw.one f (i := a) (j := p) (Nat.le_refl a) (by omega) hap hpb)
  clear hh0 h
  obtain ⟨j, hjb, hjb2, kj⟩ : ∃ j, j < b ∧ b ≤ j + 1 ∧ (b : Int) - 1 = (j : Int) := ⟨b - 1, by omega, by omega, by omega⟩
  obtain ⟨i, hi, hi2, ki⟩ : ∃ i, a + 1 ≤ i ∧ i ≤ a + 1 ∧ (a : Int) + 1 = (i : Int) := ⟨a + 1, by omega, by omega, by omega⟩
  have HP0 := Lib.hid (part_start a b (sw f a p))
  rw [show b - 1 = j by omega, show a + 1 = i by omega] at HP0
  obtain ⟨f1, hf1⟩ : ∃ f1, sw f a p = f1 := ⟨_, rfl⟩
  rw [hf1] at HSW HWs HP0
  clear hf1
  have HP := HP0
  clear HP0
  go_enter Try.func68, Try.ntmps68
  go_wp2
  go_region
  all_goals go_wp2
  have hij0 : i ≤ j + 1 := by omega
  have HH := Lib.hid (HWs.out 1)
  clear HWs csi csj cs2 kj ki
  go_loopw [10] (fun u wr => ∃ i : Nat, u = .int .i64 i ∧ a + 1 ≤ i ∧ i ≤ j + 1 ∧ Hid (Part a b i j f1) ∧ Hid (Has w B g cap n f1 wr)) (fun u _ => n + 1 - (intOf u).toNat)
  case atStart => exact ⟨i, rfl, by omega, by omega, HP, HH⟩
  case round =>
    obtain ⟨i, rfl, hi1, hi2, HP1, HH1⟩ := hrel
    clear HP HH
    by_cases hij : i ≤ j
    · skip
      have c1 := rd2 HH1.out (i := i) (by omega)
      have c2 := rd2 HH1.out (i := a) (by omega)
      obtain ⟨x, hx⟩ : ∃ x, x = f1 (i) := ⟨_, rfl⟩
      obtain ⟨y, hy⟩ : ∃ y, y = f1 a := ⟨_, rfl⟩
      rw [← hx] at c1
      rw [← hy] at c2
      have HX := Lib.hid (And.intro hx hy)
      clear hx hy
      have k1 : (i : Int) ≤ ((j : Nat) : Int) := by omega
      have k2 : ((i : Nat) : Int) < (n : Int) := by omega
      have k3 : (a : Int) < (n : Int) := by omega
      push_cast at k1 k2
      by_cases hl : x < y
      · have hd : decide (x < y) = true := decide_eq_true hl
        have HL := Lib.hid hl
        clear hl
        go_wp2
        go_quiet (first | (go_at_call 66; refine Calls.quiet_of_same (less_any _ _ _)))
        have hl := HL.out
        go_wp2
        go_roundw
        case rel => exact ⟨i + 1, by go_num, by omega, by omega, Lib.hid (part_up HP1.out (by rw [← HX.out.1, ← HX.out.2]; omega)), Lib.hid (HH1.out.drewN _)⟩
        case measure => simp [intOf] <;> omega
      · have hd : decide (x < y) = false := decide_eq_false hl
        have HL := Lib.hid hl
        clear hl
        go_wp2
        go_quiet (first | (go_at_call 66; refine Calls.quiet_of_same (less_any _ _ _)))
        have hl := HL.out
        have hstop : f1 a ≤ f1 i := by rw [← HX.out.1, ← HX.out.2]; omega
        have HH := Lib.hid (HH1.out.drewN nq)
        have HP := HP1
        clear HH1 HP1 hd c1 c2 HX HL hl k2 k3
        generalize wr.drewN nq = wx at *
        clear wr
        generalize wx = wr at *
        go_wp2
        have hstopU := Lib.hid hstop
        clear hstop hij
        obtain ⟨J, hJ1, hJ2⟩ : ∃ J, j ≤ J ∧ J ≤ j := ⟨j, Nat.le_refl _, Nat.le_refl _⟩
        go_loopw [11] (fun u wr => ∃ j : Nat, u = .int .i64 j ∧ j ≤ J ∧ i ≤ j + 1 ∧ j < b ∧ Hid (Part a b i j f1) ∧ Hid (Has w B g cap n f1 wr)) (fun u _ => (intOf u).toNat)
        case atStart => exact ⟨j, rfl, hJ1, by omega, by omega, HP, HH⟩
        case round =>
          obtain ⟨j, rfl, hjJ, hj1, hj2, HP1, HH1⟩ := hrel
          clear HP HH
          by_cases hij : i ≤ j
          · obtain ⟨j, rfl⟩ : ∃ j', j = j' + 1 := ⟨j - 1, by omega⟩
            try simp only [Int.natCast_add, Int.natCast_one]
            have c1 := rd2 HH1.out (i := j + 1) (by omega)
            have c2 := rd2 HH1.out (i := a) (by omega)
            obtain ⟨x, hx⟩ : ∃ x, x = f1 (j + 1) := ⟨_, rfl⟩
            obtain ⟨y, hy⟩ : ∃ y, y = f1 a := ⟨_, rfl⟩
            rw [← hx] at c1
            rw [← hy] at c2
            have HX := Lib.hid (And.intro hx hy)
            clear hx hy
            have k1 : (i : Int) ≤ ((j + 1 : Nat) : Int) := by omega
            have k2 : ((j + 1 : Nat) : Int) < (n : Int) := by omega
            have k3 : (a : Int) < (n : Int) := by omega
            push_cast at k1 k2
            by_cases hl : x < y
            · have hd : decide (x < y) = true := decide_eq_true hl
              have HL := Lib.hid hl
              clear hl
              go_wp2
              go_quiet (first | (go_at_call 66; refine Calls.quiet_of_same (less_any _ _ _)))
              have hl := HL.out
              have hstop : f1 (j + 1) < f1 a := by rw [← HX.out.1, ← HX.out.2]; omega
              have HH := Lib.hid (HH1.out.drewN nq)
              have HP := HP1
              clear HH1 HP1 hd c1 c2 HX HL hl k2 k3
              generalize wr.drewN nq = wx at *
              clear wr
              generalize wx = wr at *
              go_wp2
              have cti := rd2 HH.out (i := i) (by omega)
              have ctj := rd2 HH.out (i := j + 1) (by omega)
              have eti := HH.out.1.free (i)
              have etj := HH.out.1.free (j + 1)
              obtain ⟨xt, hxt⟩ : ∃ x, x = f1 (i) := ⟨_, rfl⟩
              obtain ⟨yt, hyt⟩ : ∃ y, y = f1 (j + 1) := ⟨_, rfl⟩
              rw [← hxt] at cti
              rw [← hyt] at ctj
              obtain ⟨⟨vt, ct2⟩, et2⟩ := HH.out.1.set2 (i := i) (j := j + 1) (by omega) (.int .u32 yt)
              have kti : ((i : Nat) : Int) < (n : Int) := by omega
              have ktj : ((j + 1 : Nat) : Int) < (n : Int) := by omega
              have HWt := Lib.hid (fun z => HH.out.swp z (i := i) (j := j + 1) (by omega) (by omega) hxt hyt)
              clear hxt hyt
              have HS2 := Lib.hid (HSW.out.trans (Sw.one f1 (i := i) (j := j + 1) (by omega) (by omega) (by omega) (by omega)))
              have kij : i < j + 1 := by
                rcases Nat.lt_or_ge i (j + 1) with h | h
                · exact h
                · exfalso
                  have e : i = j + 1 := by omega
                  have h2 := hstopU.out
                  rw [e] at h2
                  omega
              have HPN := Lib.hid (part_swap HP.out (show a < i by omega) kij hstopU.out hstop)
              push_cast at ktj
              clear HH HP
              go_region
              all_goals go_wp2
              go_loopw [10, 11] (fun u v wr => ∃ (i j : Nat) (f1 : Fn), u = .int .i64 i ∧ v = .int .i64 j ∧ a + 1 ≤ i ∧ i ≤ j + 1 ∧ j < b ∧ Hid (Part a b i j f1) ∧ Hid (Sw a b f f1) ∧ Hid (Has w B g cap n f1 wr)) (fun _ v _ => (intOf v).toNat)
              case atStart => exact ⟨i + 1, j, _, by go_num, by go_num, by omega, by omega, by omega, HPN, HS2, Lib.hid (HWt.out _)⟩
              case round =>
                obtain ⟨i, j, f1, rfl, rfl, hi, hij0, hjb, HP, HSW, HH⟩ := hrel
                clear HPN HS2 HWt
                go_wp2
                go_loopw [10] (fun u wr => ∃ i : Nat, u = .int .i64 i ∧ a + 1 ≤ i ∧ i ≤ j + 1 ∧ Hid (Part a b i j f1) ∧ Hid (Has w B g cap n f1 wr)) (fun u _ => n + 1 - (intOf u).toNat)
                case atStart => exact ⟨i, rfl, by omega, by omega, HP, HH⟩
                case round =>
                  obtain ⟨i, rfl, hi1, hi2, HP1, HH1⟩ := hrel
                  clear HP HH
                  by_cases hij : i ≤ j
                  · skip
                    have c1 := rd2 HH1.out (i := i) (by omega)
                    have c2 := rd2 HH1.out (i := a) (by omega)
                    obtain ⟨x, hx⟩ : ∃ x, x = f1 (i) := ⟨_, rfl⟩
                    obtain ⟨y, hy⟩ : ∃ y, y = f1 a := ⟨_, rfl⟩
                    rw [← hx] at c1
                    rw [← hy] at c2
                    have HX := Lib.hid (And.intro hx hy)
                    clear hx hy
                    have k1 : (i : Int) ≤ ((j : Nat) : Int) := by omega
                    have k2 : ((i : Nat) : Int) < (n : Int) := by omega
                    have k3 : (a : Int) < (n : Int) := by omega
                    push_cast at k1 k2
                    by_cases hl : x < y
                    · have hd : decide (x < y) = true := decide_eq_true hl
                      have HL := Lib.hid hl
                      clear hl
                      go_wp2
                      go_quiet (first | (go_at_call 66; refine Calls.quiet_of_same (less_any _ _ _)))
                      have hl := HL.out
                      go_wp2
                      go_roundw
                      case rel => exact ⟨i + 1, by go_num, by omega, by omega, Lib.hid (part_up HP1.out (by rw [← HX.out.1, ← HX.out.2]; omega)), Lib.hid (HH1.out.drewN _)⟩
                      case measure => simp [intOf] <;> omega
                    · have hd : decide (x < y) = false := decide_eq_false hl
                      have HL := Lib.hid hl
                      clear hl
                      go_wp2
                      go_quiet (first | (go_at_call 66; refine Calls.quiet_of_same (less_any _ _ _)))
                      have hl := HL.out
                      have hstop : f1 a ≤ f1 i := by rw [← HX.out.1, ← HX.out.2]; omega
                      have HH := Lib.hid (HH1.out.drewN nq)
                      have HP := HP1
                      clear HH1 HP1 hd c1 c2 HX HL hl k2 k3
                      generalize wr.drewN nq = wx at *
                      clear wr
                      generalize wx = wr at *
                      go_wp2
                      have hstopU := Lib.hid hstop
                      clear hstop hij
                      obtain ⟨J, hJ1, hJ2⟩ : ∃ J, j ≤ J ∧ J ≤ j := ⟨j, Nat.le_refl _, Nat.le_refl _⟩
                      go_loopw [11] (fun u wr => ∃ j : Nat, u = .int .i64 j ∧ j ≤ J ∧ i ≤ j + 1 ∧ j < b ∧ Hid (Part a b i j f1) ∧ Hid (Has w B g cap n f1 wr)) (fun u _ => (intOf u).toNat)
                      case atStart => exact ⟨j, rfl, hJ1, by omega, by omega, HP, HH⟩
                      case round =>
                        obtain ⟨j, rfl, hjJ, hj1, hj2, HP1, HH1⟩ := hrel
                        clear HP HH
                        by_cases hij : i ≤ j
                        · obtain ⟨j, rfl⟩ : ∃ j', j = j' + 1 := ⟨j - 1, by omega⟩
                          try simp only [Int.natCast_add, Int.natCast_one]
                          have c1 := rd2 HH1.out (i := j + 1) (by omega)
                          have c2 := rd2 HH1.out (i := a) (by omega)
                          obtain ⟨x, hx⟩ : ∃ x, x = f1 (j + 1) := ⟨_, rfl⟩
                          obtain ⟨y, hy⟩ : ∃ y, y = f1 a := ⟨_, rfl⟩
                          rw [← hx] at c1
                          rw [← hy] at c2
                          have HX := Lib.hid (And.intro hx hy)
                          clear hx hy
                          have k1 : (i : Int) ≤ ((j + 1 : Nat) : Int) := by omega
                          have k2 : ((j + 1 : Nat) : Int) < (n : Int) := by omega
                          have k3 : (a : Int) < (n : Int) := by omega
                          push_cast at k1 k2
                          by_cases hl : x < y
                          · have hd : decide (x < y) = true := decide_eq_true hl
                            have HL := Lib.hid hl
                            clear hl
                            go_wp2
                            go_quiet (first | (go_at_call 66; refine Calls.quiet_of_same (less_any _ _ _)))
                            have hl := HL.out
                            have hstop : f1 (j + 1) < f1 a := by rw [← HX.out.1, ← HX.out.2]; omega
                            have HH := Lib.hid (HH1.out.drewN nq)
                            have HP := HP1
                            clear HH1 HP1 hd c1 c2 HX HL hl k2 k3
                            generalize wr.drewN nq = wx at *
                            clear wr
                            generalize wx = wr at *
                            go_wp2
                            have cti := rd2 HH.out (i := i) (by omega)
                            have ctj := rd2 HH.out (i := j + 1) (by omega)
                            have eti := HH.out.1.free (i)
                            have etj := HH.out.1.free (j + 1)
                            obtain ⟨xt, hxt⟩ : ∃ x, x = f1 (i) := ⟨_, rfl⟩
                            obtain ⟨yt, hyt⟩ : ∃ y, y = f1 (j + 1) := ⟨_, rfl⟩
                            rw [← hxt] at cti
                            rw [← hyt] at ctj
                            obtain ⟨⟨vt, ct2⟩, et2⟩ := HH.out.1.set2 (i := i) (j := j + 1) (by omega) (.int .u32 yt)
                            have kti : ((i : Nat) : Int) < (n : Int) := by omega
                            have ktj : ((j + 1 : Nat) : Int) < (n : Int) := by omega
                            have HWt := Lib.hid (fun z => HH.out.swp z (i := i) (j := j + 1) (by omega) (by omega) hxt hyt)
                            clear hxt hyt
                            have HS2 := Lib.hid (HSW.out.trans (Sw.one f1 (i := i) (j := j + 1) (by omega) (by omega) (by omega) (by omega)))
                            have kij : i < j + 1 := by
                              rcases Nat.lt_or_ge i (j + 1) with h | h
                              · exact h
                              · exfalso
                                have e : i = j + 1 := by omega
                                have h2 := hstopU.out
                                rw [e] at h2
                                omega
                            have HPN := Lib.hid (part_swap HP.out (show a < i by omega) kij hstopU.out hstop)
                            push_cast at ktj
                            clear HH HP
                            go_region
                            all_goals go_wp2
                            go_roundw
                            case rel => exact ⟨i + 1, j, _, by go_num, by go_num, by omega, by omega, by omega, HPN, HS2, Lib.hid (HWt.out _)⟩
                            case measure => simp [intOf] <;> omega
                          · have hd : decide (x < y) = false := decide_eq_false hl
                            have HL := Lib.hid hl
                            clear hl
                            go_wp2
                            go_quiet (first | (go_at_call 66; refine Calls.quiet_of_same (less_any _ _ _)))
                            have hl := HL.out
                            go_wp2
                            go_roundw
                            case rel => exact ⟨j, by go_num, by omega, by omega, by omega, Lib.hid (part_down HP1.out (by rw [← HX.out.1, ← HX.out.2]; omega)), Lib.hid (HH1.out.drewN _)⟩
                            case measure => simp [intOf] <;> omega
                        · obtain rfl : i = j + 1 := by omega
                          have hd : decide (((j + 1 : Nat) : Int) ≤ (j : Int)) = false := by simp <;> omega
                          push_cast at hd
                          simp only [Int.natCast_add, Int.natCast_one] at *
                          go_wp2
                          go_quiet (fail)
                          have HH := Lib.hid (HH1.out.drewN nq)
                          have HP := HP1
                          clear HH1 HP1 hd
                          generalize wr.drewN nq = wx at *
                          clear wr
                          generalize wx = wr at *
                          go_wp2
                          have cti := rd2 HH.out (i := j) (by omega)
                          have ctj := rd2 HH.out (i := a) (by omega)
                          have eti := HH.out.1.free (j)
                          have etj := HH.out.1.free (a)
                          obtain ⟨xt, hxt⟩ : ∃ x, x = f1 (j) := ⟨_, rfl⟩
                          obtain ⟨yt, hyt⟩ : ∃ y, y = f1 (a) := ⟨_, rfl⟩
                          rw [← hxt] at cti
                          rw [← hyt] at ctj
                          obtain ⟨⟨vt, ct2⟩, et2⟩ := HH.out.1.set2 (i := j) (j := a) (by omega) (.int .u32 yt)
                          have kti : ((j : Nat) : Int) < (n : Int) := by omega
                          have ktj : ((a : Nat) : Int) < (n : Int) := by omega
                          have HWt := Lib.hid (fun z => HH.out.swp z (i := j) (j := a) (by omega) (by omega) hxt hyt)
                          clear hxt hyt
                          have HE := Lib.hid (show a ≤ j ∧ j < b ∧ Sw a b f (sw f1 j a) ∧ Cut a b j (sw f1 j a) from ⟨by omega, by omega, HSW.out.trans (Sw.one f1 (i := j) (j := a) (by omega) (by omega) (Nat.le_refl a) (by omega)), part_end HP.out (by omega)⟩)
                          clear HH HP
                          go_wp2
                          go_region
                          all_goals go_wp2
                          go_ret2
                          exact ⟨j, _, rfl, HE.out.1, HE.out.2.1, _, HE.out.2.2.1, HE.out.2.2.2, HWt.out _⟩
                  · obtain rfl : i = j + 1 := by omega
                    have hd : decide (((j + 1 : Nat) : Int) ≤ (j : Int)) = false := by simp <;> omega
                    push_cast at hd
                    simp only [Int.natCast_add, Int.natCast_one] at *
                    go_wp2
                    go_quiet (fail)
                    have HH := Lib.hid (HH1.out.drewN nq)
                    have HP := HP1
                    clear HH1 HP1 hd
                    generalize wr.drewN nq = wx at *
                    clear wr
                    generalize wx = wr at *
                    go_wp2
                    refine wp_loop_rounds 1 ?_
                    rw [rounds_succ]
                    have hd : decide ((j : Int) + 1 ≤ (j : Int)) = false := by simp; omega
                    go_wp2
                    go_quiet (fail)
                    replace HH := Lib.hid (HH.out.drewN nq)
                    clear hd
                    generalize wr.drewN nq = wx at *
                    clear wr
                    generalize wx = wr at *
                    go_wp2
                    have cti := rd2 HH.out (i := j) (by omega)
                    have ctj := rd2 HH.out (i := a) (by omega)
                    have eti := HH.out.1.free (j)
                    have etj := HH.out.1.free (a)
                    obtain ⟨xt, hxt⟩ : ∃ x, x = f1 (j) := ⟨_, rfl⟩
                    obtain ⟨yt, hyt⟩ : ∃ y, y = f1 (a) := ⟨_, rfl⟩
                    rw [← hxt] at cti
                    rw [← hyt] at ctj
                    obtain ⟨⟨vt, ct2⟩, et2⟩ := HH.out.1.set2 (i := j) (j := a) (by omega) (.int .u32 yt)
                    have kti : ((j : Nat) : Int) < (n : Int) := by omega
                    have ktj : ((a : Nat) : Int) < (n : Int) := by omega
                    have HWt := Lib.hid (fun z => HH.out.swp z (i := j) (j := a) (by omega) (by omega) hxt hyt)
                    clear hxt hyt
                    have HE := Lib.hid (show a ≤ j ∧ j < b ∧ Sw a b f (sw f1 j a) ∧ Cut a b j (sw f1 j a) from ⟨by omega, by omega, HSW.out.trans (Sw.one f1 (i := j) (j := a) (by omega) (by omega) (Nat.le_refl a) (by omega)), part_end HP.out (by omega)⟩)
                    clear HH HP
                    go_wp2
                    go_region
                    all_goals go_wp2
                    go_ret2
                    exact ⟨j, _, rfl, HE.out.1, HE.out.2.1, _, HE.out.2.2.1, HE.out.2.2.2, HWt.out _⟩
            · have hd : decide (x < y) = false := decide_eq_false hl
              have HL := Lib.hid hl
              clear hl
              go_wp2
              go_quiet (first | (go_at_call 66; refine Calls.quiet_of_same (less_any _ _ _)))
              have hl := HL.out
              go_wp2
              go_roundw
              case rel => exact ⟨j, by go_num, by omega, by omega, by omega, Lib.hid (part_down HP1.out (by rw [← HX.out.1, ← HX.out.2]; omega)), Lib.hid (HH1.out.drewN _)⟩
              case measure => simp [intOf] <;> omega
          · obtain rfl : i = j + 1 := by omega
            have hd : decide (((j + 1 : Nat) : Int) ≤ (j : Int)) = false := by simp <;> omega
            push_cast at hd
            simp only [Int.natCast_add, Int.natCast_one] at *
            go_wp2
            go_quiet (fail)
            have HH := Lib.hid (HH1.out.drewN nq)
            have HP := HP1
            clear HH1 HP1 hd
            generalize wr.drewN nq = wx at *
            clear wr
            generalize wx = wr at *
            go_wp2
            have cti := rd2 HH.out (i := j) (by omega)
            have ctj := rd2 HH.out (i := a) (by omega)
            have eti := HH.out.1.free (j)
            have etj := HH.out.1.free (a)
            obtain ⟨xt, hxt⟩ : ∃ x, x = f1 (j) := ⟨_, rfl⟩
            obtain ⟨yt, hyt⟩ : ∃ y, y = f1 (a) := ⟨_, rfl⟩
            rw [← hxt] at cti
            rw [← hyt] at ctj
            obtain ⟨⟨vt, ct2⟩, et2⟩ := HH.out.1.set2 (i := j) (j := a) (by omega) (.int .u32 yt)
            have kti : ((j : Nat) : Int) < (n : Int) := by omega
            have ktj : ((a : Nat) : Int) < (n : Int) := by omega
            have HWt := Lib.hid (fun z => HH.out.swp z (i := j) (j := a) (by omega) (by omega) hxt hyt)
            clear hxt hyt
            have HE := Lib.hid (show a ≤ j ∧ j < b ∧ Sw a b f (sw f1 j a) ∧ Cut a b j (sw f1 j a) from ⟨by omega, by omega, HSW.out.trans (Sw.one f1 (i := j) (j := a) (by omega) (by omega) (Nat.le_refl a) (by omega)), part_end HP.out (by omega)⟩)
            clear HH HP
            go_wp2
            go_region
            all_goals go_wp2
            go_ret2
            exact ⟨j, _, rfl, HE.out.1, HE.out.2.1, _, HE.out.2.2.1, HE.out.2.2.2, HWt.out _⟩
    · obtain rfl : i = j + 1 := by omega
      have hd : decide (((j + 1 : Nat) : Int) ≤ (j : Int)) = false := by simp <;> omega
      push_cast at hd
      simp only [Int.natCast_add, Int.natCast_one] at *
      go_wp2
      go_quiet (fail)
      have HH := Lib.hid (HH1.out.drewN nq)
      have HP := HP1
      clear HH1 HP1 hd
      generalize wr.drewN nq = wx at *
      clear wr
      generalize wx = wr at *
      go_wp2
      refine wp_loop_rounds 1 ?_
      rw [rounds_succ]
      have hd : decide ((j : Int) + 1 ≤ (j : Int)) = false := by simp; omega
      go_wp2
      go_quiet (fail)
      replace HH := Lib.hid (HH.out.drewN nq)
      clear hd
      generalize wr.drewN nq = wx at *
      clear wr
      generalize wx = wr at *
      go_wp2
      have cti := rd2 HH.out (i := j) (by omega)
      have ctj := rd2 HH.out (i := a) (by omega)
      have eti := HH.out.1.free (j)
      have etj := HH.out.1.free (a)
      obtain ⟨xt, hxt⟩ : ∃ x, x = f1 (j) := ⟨_, rfl⟩
      obtain ⟨yt, hyt⟩ : ∃ y, y = f1 (a) := ⟨_, rfl⟩
      rw [← hxt] at cti
      rw [← hyt] at ctj
      obtain ⟨⟨vt, ct2⟩, et2⟩ := HH.out.1.set2 (i := j) (j := a) (by omega) (.int .u32 yt)
      have kti : ((j : Nat) : Int) < (n : Int) := by omega
      have ktj : ((a : Nat) : Int) < (n : Int) := by omega
      have HWt := Lib.hid (fun z => HH.out.swp z (i := j) (j := a) (by omega) (by omega) hxt hyt)
      clear hxt hyt
      have HE := Lib.hid (show a ≤ j ∧ j < b ∧ Sw a b f (sw f1 j a) ∧ Cut a b j (sw f1 j a) from ⟨by omega, by omega, HSW.out.trans (Sw.one f1 (i := j) (j := a) (by omega) (by omega) (Nat.le_refl a) (by omega)), part_end HP.out (by omega)⟩)
      clear HH HP
      go_wp2
      go_region
      all_goals go_wp2
      go_ret2
      exact ⟨j, _, rfl, HE.out.1, HE.out.2.1, _, HE.out.2.2.1, HE.out.2.2.2, HWt.out _⟩
end Go.Proofs.Ytgjjfodogkcmmaa.So
