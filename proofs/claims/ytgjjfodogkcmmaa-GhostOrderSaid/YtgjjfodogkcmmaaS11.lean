/- The sort of numbers: what is nearly in order, walked. -/
import Derived.Test.YtgjjfodogkcmmaaS4
namespace Go.Proofs.Ytgjjfodogkcmmaa.So
open Go Go.RowKit
set_option maxRecDepth 100000 in
set_option maxHeartbeats 8000000 in
theorem partial_any (B g cap n a b : Nat) (f : Fn) (w : World) (h : Own w B g cap n f) (hn : n ≤ 1152921504606846975) (hab : a < b) (hb : b ≤ n) (hlow : Low a b f) :
    Calls Try.prog 65 #[.slice (some ⟨g, 0, none⟩) n cap, .int .i64 a, .int .i64 b] w fun e w' => ∃ t : Bool, e = .returned (.bool t) ∧ ∃ f', Sw a b f f' ∧ (t = true → Up a b f') ∧ Has w B g cap n f' w' := by
  have H := Lib.hid (Has.refl h)
  have HLow := Lib.hid hlow
  clear h hlow
  go_enter Try.func65, Try.ntmps65
  go_wp2
  go_loopw [7, 8] (fun u v wr => ∃ (i k : Nat) (f1 : Fn), u = .int .i64 i ∧ v = .int .i64 k ∧ k ≤ 5 ∧ a + 1 ≤ i ∧ i ≤ b ∧ Hid (Up a i f1) ∧ Hid (Sw a b f f1) ∧ Hid (Has w B g cap n f1 wr)) (fun _ v _ => 5 - (intOf v).toNat)
  case atStart => exact ⟨a + 1, 0, f, by go_num, rfl, by omega, by omega, by omega, Lib.hid (up_small f (by omega)), Lib.hid (.refl f), H⟩
  case round =>
    obtain ⟨i, k, f1, rfl, rfl, hk, hi1, hi2, HU, HS, HH⟩ := hrel
    clear H
    by_cases hk5 : k < 5
    · go_wp2
      go_loopw [7] (fun u wr => ∃ i : Nat, u = .int .i64 i ∧ a + 1 ≤ i ∧ i ≤ b ∧ Hid (Up a i f1) ∧ Hid (Has w B g cap n f1 wr)) (fun u _ => n - (intOf u).toNat)
      case atStart => exact ⟨i, rfl, hi1, hi2, HU, HH⟩
      case round =>
        clear HU HH
        obtain ⟨i, rfl, hi1, hi2, HU, HH⟩ := hrel
        by_cases hib : i < b
        · obtain ⟨m, rfl⟩ : ∃ m, i = m + 1 := ⟨i - 1, by omega⟩
          try simp only [Int.natCast_add, Int.natCast_one]
          have csi := rd2 HH.out (i := m + 1) (by omega)
          have csj := rd2 HH.out (i := m) (by omega)
          have esi := HH.out.1.free (m + 1)
          have esj := HH.out.1.free (m)
          obtain ⟨xs, hxs⟩ : ∃ x, x = f1 (m + 1) := ⟨_, rfl⟩
          obtain ⟨ys, hys⟩ : ∃ y, y = f1 (m) := ⟨_, rfl⟩
          rw [← hxs] at csi
          rw [← hys] at csj
          obtain ⟨⟨vs, cs2⟩, es2⟩ := HH.out.1.set2 (i := m + 1) (j := m) (by omega) (.int .u32 ys)
          have ksi : ((m + 1 : Nat) : Int) < (n : Int) := by omega
          have ksj : ((m : Nat) : Int) < (n : Int) := by omega
          have HWs := Lib.hid (fun z => HH.out.swp z (i := m + 1) (j := m) (by omega) (by omega) hxs hys)
          have HXY := Lib.hid (And.intro hxs hys)
          clear hxs hys
          have kmb : (m : Int) + 1 < (b : Int) := by omega
          push_cast at ksi
          by_cases hl : xs < ys
          · have hd : decide (xs < ys) = true := decide_eq_true hl
            clear hl
            have HSW := Lib.hid (show Sw a b f f1 ∧ Up a (m + 1) f1 from ⟨HS.out, HU.out⟩)
            have ke : ((m : Int) + 1 == (b : Int)) = false := by rw [beq_eq_false_iff_ne]; omega
            go_wp2
            go_quiet (first | (go_at_call 66; refine Calls.quiet_of_same (less_any _ _ _)))
            by_cases h50 : b < a + 50
            · have k50 : (b : Int) - (a : Int) < 50 := by omega
              have HE := Lib.hid (show ∃ f', Sw a b f f' ∧ (false = true → Up a b f') ∧ Has w B g cap n f' (wr.drewN nq) from ⟨f1, HS.out, fun e => (by cases e), HH.out.drewN _⟩)
              go_wp2
              go_ret
              exact ⟨false, rfl, HE.out⟩
            · have k50 : ¬ ((b : Int) - (a : Int) < 50) := by omega
              clear HU HS HH HXY
              by_cases h2 : m + 3 ≤ b
              · have kr : (2 : Int) ≤ (b : Int) - ((m : Int) + 1) := by omega
                by_cases h1 : a + 1 ≤ m
                · skip
                  have HI0 := Lib.hid (show Sw a b f (sw f1 (m + 1) m) ∧ Up a m (sw f1 (m + 1) m) from ⟨HSW.out.1.trans (Sw.one f1 (by omega) (by omega) (by omega) (by omega)), (HSW.out.2.mono (Nat.le_refl _) (Nat.le_succ m)).eq (fun x x1 x2 => by unfold sw; rw [if_neg (by omega), if_neg (by omega)])⟩)
                  obtain ⟨f0, hf0⟩ : ∃ f0, f0 = sw f1 (m + 1) m := ⟨_, rfl⟩
                  rw [← hf0] at HI0 HWs
                  clear hf0 HSW
                  have kl : (2 : Int) ≤ (m : Int) + 1 - (a : Int) := by omega
                  go_wp2
                  go_region
                  all_goals go_wp2
                  go_loopw [9] (fun u wr => ∃ (j : Nat) (f2 : Fn), u = .int .i64 j ∧ a ≤ j ∧ j ≤ m ∧ Hid (Sw a b f f2 ∧ Ins a j m f2) ∧ Hid (Has w B g cap n f2 wr)) (fun u _ => (intOf u).toNat)
                  case atStart => exact ⟨m, f0, by go_num, by omega, Nat.le_refl _, Lib.hid ⟨HI0.out.1, ins_start HI0.out.2⟩, Lib.hid (HWs.out _)⟩
                  case round =>
                    obtain ⟨j, f2, rfl, hj1, hj2, HJ, HH2⟩ := hrel
                    clear HI0 HWs csi csj cs2 esi esj es2
                    by_cases hj0 : 1 ≤ j
                    · obtain ⟨j, rfl⟩ : ∃ j', j = j' + 1 := ⟨j - 1, by omega⟩
                      try simp only [Int.natCast_add, Int.natCast_one]
                      have csi := rd2 HH2.out (i := j + 1) (by omega)
                      have csj := rd2 HH2.out (i := j) (by omega)
                      have esi := HH2.out.1.free (j + 1)
                      have esj := HH2.out.1.free (j)
                      obtain ⟨xs, hxs⟩ : ∃ x, x = f2 (j + 1) := ⟨_, rfl⟩
                      obtain ⟨ys, hys⟩ : ∃ y, y = f2 (j) := ⟨_, rfl⟩
                      rw [← hxs] at csi
                      rw [← hys] at csj
                      obtain ⟨⟨vs, cs2⟩, es2⟩ := HH2.out.1.set2 (i := j + 1) (j := j) (by omega) (.int .u32 ys)
                      have ksi : ((j + 1 : Nat) : Int) < (n : Int) := by omega
                      have ksj : ((j : Nat) : Int) < (n : Int) := by omega
                      have HWs := Lib.hid (fun z => HH2.out.swp z (i := j + 1) (j := j) (by omega) (by omega) hxs hys)
                      have HXY := Lib.hid (And.intro hxs hys)
                      clear hxs hys
                      have kj1 : (1 : Int) ≤ (j : Int) + 1 := by omega
                      push_cast at ksi
                      by_cases hl : xs < ys
                      · have hd : decide (xs < ys) = true := decide_eq_true hl
                        have haj : a ≤ j := by
                          rcases Nat.lt_or_ge j a with h | h
                          · exfalso
                            have e : a = j + 1 := by omega
                            have h3 := (HLow.out.sw HJ.out.1) (by omega) (j + 1) (by omega) (by omega)
                            rw [e, Nat.add_sub_cancel, ← HXY.out.1, ← HXY.out.2] at h3
                            omega
                          · exact h
                        have HE := Lib.hid (show Sw a b f (sw f2 (j + 1) j) ∧ Ins a j m (sw f2 (j + 1) j) from ⟨HJ.out.1.trans (Sw.one f2 (by omega) (by omega) (by omega) (by omega)), ins_step HJ.out.2 haj (by omega) (by rw [← HXY.out.1, ← HXY.out.2]; exact hl)⟩)
                        clear hl
                        go_wp2
                        go_quiet (first | (go_at_call 66; refine Calls.quiet_of_same (less_any _ _ _)))
                        go_wp2
                        go_region
                        all_goals go_wp2
                        go_roundw
                        case rel => exact ⟨j, _, by go_num, by omega, by omega, HE, Lib.hid (HWs.out _)⟩
                        case measure => simp [intOf] <;> omega
                      · have hd : decide (xs < ys) = false := decide_eq_false hl
                        have HU := Lib.hid (show Sw a b f f2 ∧ Up a (m + 1) f2 from ⟨HJ.out.1, ins_end HJ.out.2 (by omega) (by omega) (.inr (by rw [Nat.add_sub_cancel, ← HXY.out.1, ← HXY.out.2]; omega))⟩)
                        clear hl
                        go_wp2
                        go_quiet (first | (go_at_call 66; refine Calls.quiet_of_same (less_any _ _ _)))
                        have HH4 := Lib.hid (HH2.out.drewN nq)
                        clear HH2 csi csj cs2 esi esj es2 HWs hd HXY ksi ksj
                        have HH2 := HH4
                        clear HH4
                        generalize wr.drewN nq = wy at *
                        clear wr
                        generalize wy = wr at *
                        go_wp2
                        go_loopw [10] (fun u wr => ∃ (j : Nat) (f3 : Fn), u = .int .i64 j ∧ m + 2 ≤ j ∧ j ≤ b ∧ Hid (Sw a b f f3 ∧ Up a (m + 1) f3) ∧ Hid (Has w B g cap n f3 wr)) (fun u _ => n - (intOf u).toNat)
                        case atStart => exact ⟨m + 2, f2, by go_num, Nat.le_refl _, by omega, HU, HH2⟩
                        case round =>
                          obtain ⟨j, f3, rfl, hj1, hj2, HU3, HH3⟩ := hrel
                          clear HU HH2
                          by_cases hjb : j < b
                          · obtain ⟨j, rfl⟩ : ∃ j', j = j' + 1 := ⟨j - 1, by omega⟩
                            try simp only [Int.natCast_add, Int.natCast_one]
                            have csi := rd2 HH3.out (i := j + 1) (by omega)
                            have csj := rd2 HH3.out (i := j) (by omega)
                            have esi := HH3.out.1.free (j + 1)
                            have esj := HH3.out.1.free (j)
                            obtain ⟨xs, hxs⟩ : ∃ x, x = f3 (j + 1) := ⟨_, rfl⟩
                            obtain ⟨ys, hys⟩ : ∃ y, y = f3 (j) := ⟨_, rfl⟩
                            rw [← hxs] at csi
                            rw [← hys] at csj
                            obtain ⟨⟨vs, cs2⟩, es2⟩ := HH3.out.1.set2 (i := j + 1) (j := j) (by omega) (.int .u32 ys)
                            have ksi : ((j + 1 : Nat) : Int) < (n : Int) := by omega
                            have ksj : ((j : Nat) : Int) < (n : Int) := by omega
                            have HWs := Lib.hid (fun z => HH3.out.swp z (i := j + 1) (j := j) (by omega) (by omega) hxs hys)
                            clear hxs hys
                            have kjb : (j : Int) + 1 < (b : Int) := by omega
                            push_cast at ksi
                            by_cases hl : xs < ys
                            · have hd : decide (xs < ys) = true := decide_eq_true hl
                              clear hl
                              have HE := Lib.hid (show Sw a b f (sw f3 (j + 1) j) ∧ Up a (m + 1) (sw f3 (j + 1) j) from ⟨HU3.out.1.trans (Sw.one f3 (by omega) (by omega) (by omega) (by omega)), HU3.out.2.eq (fun x x1 x2 => by unfold sw; rw [if_neg (by omega), if_neg (by omega)])⟩)
                              go_wp2
                              go_quiet (first | (go_at_call 66; refine Calls.quiet_of_same (less_any _ _ _)))
                              go_wp2
                              go_region
                              all_goals go_wp2
                              go_roundw
                              case rel => exact ⟨j + 2, _, by go_num, by omega, by omega, HE, Lib.hid (HWs.out _)⟩
                              case measure => simp [intOf] <;> omega
                            · have hd : decide (xs < ys) = false := decide_eq_false hl
                              clear hl
                              have HE := HU3
                              go_wp2
                              go_quiet (first | (go_at_call 66; refine Calls.quiet_of_same (less_any _ _ _)))
                              have HH4 := Lib.hid (HH3.out.drewN nq)
                              clear HH3
                              have HH3 := HH4
                              clear HH4
                              go_wp2
                              go_roundw
                              case rel => exact ⟨m + 1, k + 1, _, by go_num, by go_num, by omega, by omega, by omega, HE.out.2, HE.out.1, HH3⟩
                              case measure => simp [intOf] <;> omega
                          · have HE := HU3
                            have kjb : ¬ ((j : Int) < (b : Int)) := by omega
                            go_wp2
                            go_roundw
                            case rel => exact ⟨m + 1, k + 1, _, by go_num, by go_num, by omega, by omega, by omega, HE.out.2, HE.out.1, HH3⟩
                            case measure => simp [intOf] <;> omega
                    · have HU := Lib.hid (show Sw a b f f2 ∧ Up a (m + 1) f2 from ⟨HJ.out.1, ins_end HJ.out.2 (by omega) (by omega) (.inl (by omega))⟩)
                      obtain rfl : j = 0 := by omega
                      try simp only [Int.natCast_zero]
                      go_wp2
                      go_loopw [10] (fun u wr => ∃ (j : Nat) (f3 : Fn), u = .int .i64 j ∧ m + 2 ≤ j ∧ j ≤ b ∧ Hid (Sw a b f f3 ∧ Up a (m + 1) f3) ∧ Hid (Has w B g cap n f3 wr)) (fun u _ => n - (intOf u).toNat)
                      case atStart => exact ⟨m + 2, f2, by go_num, Nat.le_refl _, by omega, HU, HH2⟩
                      case round =>
                        obtain ⟨j, f3, rfl, hj1, hj2, HU3, HH3⟩ := hrel
                        clear HU HH2
                        by_cases hjb : j < b
                        · obtain ⟨j, rfl⟩ : ∃ j', j = j' + 1 := ⟨j - 1, by omega⟩
                          try simp only [Int.natCast_add, Int.natCast_one]
                          have csi := rd2 HH3.out (i := j + 1) (by omega)
                          have csj := rd2 HH3.out (i := j) (by omega)
                          have esi := HH3.out.1.free (j + 1)
                          have esj := HH3.out.1.free (j)
                          obtain ⟨xs, hxs⟩ : ∃ x, x = f3 (j + 1) := ⟨_, rfl⟩
                          obtain ⟨ys, hys⟩ : ∃ y, y = f3 (j) := ⟨_, rfl⟩
                          rw [← hxs] at csi
                          rw [← hys] at csj
                          obtain ⟨⟨vs, cs2⟩, es2⟩ := HH3.out.1.set2 (i := j + 1) (j := j) (by omega) (.int .u32 ys)
                          have ksi : ((j + 1 : Nat) : Int) < (n : Int) := by omega
                          have ksj : ((j : Nat) : Int) < (n : Int) := by omega
                          have HWs := Lib.hid (fun z => HH3.out.swp z (i := j + 1) (j := j) (by omega) (by omega) hxs hys)
                          clear hxs hys
                          have kjb : (j : Int) + 1 < (b : Int) := by omega
                          push_cast at ksi
                          by_cases hl : xs < ys
                          · have hd : decide (xs < ys) = true := decide_eq_true hl
                            clear hl
                            have HE := Lib.hid (show Sw a b f (sw f3 (j + 1) j) ∧ Up a (m + 1) (sw f3 (j + 1) j) from ⟨HU3.out.1.trans (Sw.one f3 (by omega) (by omega) (by omega) (by omega)), HU3.out.2.eq (fun x x1 x2 => by unfold sw; rw [if_neg (by omega), if_neg (by omega)])⟩)
                            go_wp2
                            go_quiet (first | (go_at_call 66; refine Calls.quiet_of_same (less_any _ _ _)))
                            go_wp2
                            go_region
                            all_goals go_wp2
                            go_roundw
                            case rel => exact ⟨j + 2, _, by go_num, by omega, by omega, HE, Lib.hid (HWs.out _)⟩
                            case measure => simp [intOf] <;> omega
                          · have hd : decide (xs < ys) = false := decide_eq_false hl
                            clear hl
                            have HE := HU3
                            go_wp2
                            go_quiet (first | (go_at_call 66; refine Calls.quiet_of_same (less_any _ _ _)))
                            have HH4 := Lib.hid (HH3.out.drewN nq)
                            clear HH3
                            have HH3 := HH4
                            clear HH4
                            go_wp2
                            go_roundw
                            case rel => exact ⟨m + 1, k + 1, _, by go_num, by go_num, by omega, by omega, by omega, HE.out.2, HE.out.1, HH3⟩
                            case measure => simp [intOf] <;> omega
                        · have HE := HU3
                          have kjb : ¬ ((j : Int) < (b : Int)) := by omega
                          go_wp2
                          go_roundw
                          case rel => exact ⟨m + 1, k + 1, _, by go_num, by go_num, by omega, by omega, by omega, HE.out.2, HE.out.1, HH3⟩
                          case measure => simp [intOf] <;> omega
                · skip
                  have HI0 := Lib.hid (show Sw a b f (sw f1 (m + 1) m) ∧ Up a m (sw f1 (m + 1) m) from ⟨HSW.out.1.trans (Sw.one f1 (by omega) (by omega) (by omega) (by omega)), (HSW.out.2.mono (Nat.le_refl _) (Nat.le_succ m)).eq (fun x x1 x2 => by unfold sw; rw [if_neg (by omega), if_neg (by omega)])⟩)
                  obtain ⟨f0, hf0⟩ : ∃ f0, f0 = sw f1 (m + 1) m := ⟨_, rfl⟩
                  rw [← hf0] at HI0 HWs
                  clear hf0 HSW
                  have kl : ¬ ((2 : Int) ≤ (m : Int) + 1 - (a : Int)) := by omega
                  have HU := Lib.hid (show Sw a b f f0 ∧ Up a (m + 1) f0 from ⟨HI0.out.1, up_small _ (by omega)⟩)
                  go_wp2
                  go_region
                  obtain ⟨f2, hf2⟩ : ∃ f2, f2 = f0 := ⟨_, rfl⟩
                  rw [← hf2] at HU HWs
                  clear hf2 HI0
                  have HH2 := Lib.hid (HWs.out (nq + 1))
                  go_wp2
                  go_loopw [10] (fun u wr => ∃ (j : Nat) (f3 : Fn), u = .int .i64 j ∧ m + 2 ≤ j ∧ j ≤ b ∧ Hid (Sw a b f f3 ∧ Up a (m + 1) f3) ∧ Hid (Has w B g cap n f3 wr)) (fun u _ => n - (intOf u).toNat)
                  case atStart => exact ⟨m + 2, f2, by go_num, Nat.le_refl _, by omega, HU, HH2⟩
                  case round =>
                    obtain ⟨j, f3, rfl, hj1, hj2, HU3, HH3⟩ := hrel
                    clear HU HH2
                    by_cases hjb : j < b
                    · obtain ⟨j, rfl⟩ : ∃ j', j = j' + 1 := ⟨j - 1, by omega⟩
                      try simp only [Int.natCast_add, Int.natCast_one]
                      have csi := rd2 HH3.out (i := j + 1) (by omega)
                      have csj := rd2 HH3.out (i := j) (by omega)
                      have esi := HH3.out.1.free (j + 1)
                      have esj := HH3.out.1.free (j)
                      obtain ⟨xs, hxs⟩ : ∃ x, x = f3 (j + 1) := ⟨_, rfl⟩
                      obtain ⟨ys, hys⟩ : ∃ y, y = f3 (j) := ⟨_, rfl⟩
                      rw [← hxs] at csi
                      rw [← hys] at csj
                      obtain ⟨⟨vs, cs2⟩, es2⟩ := HH3.out.1.set2 (i := j + 1) (j := j) (by omega) (.int .u32 ys)
                      have ksi : ((j + 1 : Nat) : Int) < (n : Int) := by omega
                      have ksj : ((j : Nat) : Int) < (n : Int) := by omega
                      have HWs := Lib.hid (fun z => HH3.out.swp z (i := j + 1) (j := j) (by omega) (by omega) hxs hys)
                      clear hxs hys
                      have kjb : (j : Int) + 1 < (b : Int) := by omega
                      push_cast at ksi
                      by_cases hl : xs < ys
                      · have hd : decide (xs < ys) = true := decide_eq_true hl
                        clear hl
                        have HE := Lib.hid (show Sw a b f (sw f3 (j + 1) j) ∧ Up a (m + 1) (sw f3 (j + 1) j) from ⟨HU3.out.1.trans (Sw.one f3 (by omega) (by omega) (by omega) (by omega)), HU3.out.2.eq (fun x x1 x2 => by unfold sw; rw [if_neg (by omega), if_neg (by omega)])⟩)
                        go_wp2
                        go_quiet (first | (go_at_call 66; refine Calls.quiet_of_same (less_any _ _ _)))
                        go_wp2
                        go_region
                        all_goals go_wp2
                        go_roundw
                        case rel => exact ⟨j + 2, _, by go_num, by omega, by omega, HE, Lib.hid (HWs.out _)⟩
                        case measure => simp [intOf] <;> omega
                      · have hd : decide (xs < ys) = false := decide_eq_false hl
                        clear hl
                        have HE := HU3
                        go_wp2
                        go_quiet (first | (go_at_call 66; refine Calls.quiet_of_same (less_any _ _ _)))
                        have HH4 := Lib.hid (HH3.out.drewN nq)
                        clear HH3
                        have HH3 := HH4
                        clear HH4
                        go_wp2
                        go_roundw
                        case rel => exact ⟨m + 1, k + 1, _, by go_num, by go_num, by omega, by omega, by omega, HE.out.2, HE.out.1, HH3⟩
                        case measure => simp [intOf] <;> omega
                    · have HE := HU3
                      have kjb : ¬ ((j : Int) < (b : Int)) := by omega
                      go_wp2
                      go_roundw
                      case rel => exact ⟨m + 1, k + 1, _, by go_num, by go_num, by omega, by omega, by omega, HE.out.2, HE.out.1, HH3⟩
                      case measure => simp [intOf] <;> omega
              · have kr : ¬ ((2 : Int) ≤ (b : Int) - ((m : Int) + 1)) := by omega
                by_cases h1 : a + 1 ≤ m
                · skip
                  have HI0 := Lib.hid (show Sw a b f (sw f1 (m + 1) m) ∧ Up a m (sw f1 (m + 1) m) from ⟨HSW.out.1.trans (Sw.one f1 (by omega) (by omega) (by omega) (by omega)), (HSW.out.2.mono (Nat.le_refl _) (Nat.le_succ m)).eq (fun x x1 x2 => by unfold sw; rw [if_neg (by omega), if_neg (by omega)])⟩)
                  obtain ⟨f0, hf0⟩ : ∃ f0, f0 = sw f1 (m + 1) m := ⟨_, rfl⟩
                  rw [← hf0] at HI0 HWs
                  clear hf0 HSW
                  have kl : (2 : Int) ≤ (m : Int) + 1 - (a : Int) := by omega
                  go_wp2
                  go_region
                  all_goals go_wp2
                  go_loopw [9] (fun u wr => ∃ (j : Nat) (f2 : Fn), u = .int .i64 j ∧ a ≤ j ∧ j ≤ m ∧ Hid (Sw a b f f2 ∧ Ins a j m f2) ∧ Hid (Has w B g cap n f2 wr)) (fun u _ => (intOf u).toNat)
                  case atStart => exact ⟨m, f0, by go_num, by omega, Nat.le_refl _, Lib.hid ⟨HI0.out.1, ins_start HI0.out.2⟩, Lib.hid (HWs.out _)⟩
                  case round =>
                    obtain ⟨j, f2, rfl, hj1, hj2, HJ, HH2⟩ := hrel
                    clear HI0 HWs csi csj cs2 esi esj es2
                    by_cases hj0 : 1 ≤ j
                    · obtain ⟨j, rfl⟩ : ∃ j', j = j' + 1 := ⟨j - 1, by omega⟩
                      try simp only [Int.natCast_add, Int.natCast_one]
                      have csi := rd2 HH2.out (i := j + 1) (by omega)
                      have csj := rd2 HH2.out (i := j) (by omega)
                      have esi := HH2.out.1.free (j + 1)
                      have esj := HH2.out.1.free (j)
                      obtain ⟨xs, hxs⟩ : ∃ x, x = f2 (j + 1) := ⟨_, rfl⟩
                      obtain ⟨ys, hys⟩ : ∃ y, y = f2 (j) := ⟨_, rfl⟩
                      rw [← hxs] at csi
                      rw [← hys] at csj
                      obtain ⟨⟨vs, cs2⟩, es2⟩ := HH2.out.1.set2 (i := j + 1) (j := j) (by omega) (.int .u32 ys)
                      have ksi : ((j + 1 : Nat) : Int) < (n : Int) := by omega
                      have ksj : ((j : Nat) : Int) < (n : Int) := by omega
                      have HWs := Lib.hid (fun z => HH2.out.swp z (i := j + 1) (j := j) (by omega) (by omega) hxs hys)
                      have HXY := Lib.hid (And.intro hxs hys)
                      clear hxs hys
                      have kj1 : (1 : Int) ≤ (j : Int) + 1 := by omega
                      push_cast at ksi
                      by_cases hl : xs < ys
                      · have hd : decide (xs < ys) = true := decide_eq_true hl
                        have haj : a ≤ j := by
                          rcases Nat.lt_or_ge j a with h | h
                          · exfalso
                            have e : a = j + 1 := by omega
                            have h3 := (HLow.out.sw HJ.out.1) (by omega) (j + 1) (by omega) (by omega)
                            rw [e, Nat.add_sub_cancel, ← HXY.out.1, ← HXY.out.2] at h3
                            omega
                          · exact h
                        have HE := Lib.hid (show Sw a b f (sw f2 (j + 1) j) ∧ Ins a j m (sw f2 (j + 1) j) from ⟨HJ.out.1.trans (Sw.one f2 (by omega) (by omega) (by omega) (by omega)), ins_step HJ.out.2 haj (by omega) (by rw [← HXY.out.1, ← HXY.out.2]; exact hl)⟩)
                        clear hl
                        go_wp2
                        go_quiet (first | (go_at_call 66; refine Calls.quiet_of_same (less_any _ _ _)))
                        go_wp2
                        go_region
                        all_goals go_wp2
                        go_roundw
                        case rel => exact ⟨j, _, by go_num, by omega, by omega, HE, Lib.hid (HWs.out _)⟩
                        case measure => simp [intOf] <;> omega
                      · have hd : decide (xs < ys) = false := decide_eq_false hl
                        have HU := Lib.hid (show Sw a b f f2 ∧ Up a (m + 1) f2 from ⟨HJ.out.1, ins_end HJ.out.2 (by omega) (by omega) (.inr (by rw [Nat.add_sub_cancel, ← HXY.out.1, ← HXY.out.2]; omega))⟩)
                        clear hl
                        go_wp2
                        go_quiet (first | (go_at_call 66; refine Calls.quiet_of_same (less_any _ _ _)))
                        have HH4 := Lib.hid (HH2.out.drewN nq)
                        clear HH2 csi csj cs2 esi esj es2 HWs hd HXY ksi ksj
                        have HH2 := HH4
                        clear HH4
                        generalize wr.drewN nq = wy at *
                        clear wr
                        generalize wy = wr at *
                        have HE := HU
                        have HH3 := HH2
                        clear HU HH2
                        go_wp2
                        go_roundw
                        case rel => exact ⟨m + 1, k + 1, _, by go_num, by go_num, by omega, by omega, by omega, HE.out.2, HE.out.1, HH3⟩
                        case measure => simp [intOf] <;> omega
                    · have HU := Lib.hid (show Sw a b f f2 ∧ Up a (m + 1) f2 from ⟨HJ.out.1, ins_end HJ.out.2 (by omega) (by omega) (.inl (by omega))⟩)
                      obtain rfl : j = 0 := by omega
                      try simp only [Int.natCast_zero]
                      have HE := HU
                      have HH3 := HH2
                      clear HU HH2
                      go_wp2
                      go_roundw
                      case rel => exact ⟨m + 1, k + 1, _, by go_num, by go_num, by omega, by omega, by omega, HE.out.2, HE.out.1, HH3⟩
                      case measure => simp [intOf] <;> omega
                · exfalso
                  omega
          · have hd : decide (xs < ys) = false := decide_eq_false hl
            have HE := Lib.hid (HU.out.snoc (by omega) (by rw [Nat.add_sub_cancel, ← HXY.out.1, ← HXY.out.2]; omega))
            clear hl
            go_wp2
            go_quiet (first | (go_at_call 66; refine Calls.quiet_of_same (less_any _ _ _)))
            go_wp2
            go_roundw
            case rel => exact ⟨m + 2, by go_num, by omega, by omega, HE, Lib.hid (HH.out.drewN _)⟩
            case measure => simp [intOf] <;> omega
        · obtain rfl : i = b := by omega
          have hd : decide ((i : Int) < (i : Int)) = false := by simp
          have HE := Lib.hid (show ∀ q, ∃ f', Sw a i f f' ∧ (true = true → Up a i f') ∧ Has w B g cap n f' (wr.drewN q) from fun q => ⟨f1, HS.out, fun _ => HU.out, HH.out.drewN _⟩)
          clear HU HS HH
          go_wp2
          go_quiet (fail)
          go_wp2
          go_ret
          obtain ⟨f', a1, a2, a3⟩ := HE.out nq
          exact ⟨true, rfl, f', a1, fun _ => a2 trivial, a3⟩
    · obtain rfl : k = 5 := by omega
      have HE := Lib.hid (show ∃ f', Sw a b f f' ∧ (false = true → Up a b f') ∧ Has w B g cap n f' wr from ⟨f1, HS.out, fun e => (by cases e), HH.out⟩)
      clear HU HS HH
      go_wp2
      go_ret
      exact ⟨false, rfl, HE.out⟩
end Go.Proofs.Ytgjjfodogkcmmaa.So
