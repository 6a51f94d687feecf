/- plate: the law on an armed plate, walked on. -/
import Derived.Test.YtjfbgihjgnbeeaaV1
namespace Go.Proofs.Ytjfbgihjgnbeeaa.Pl
open Go Go.RowKit
set_option maxRecDepth 100000 in
set_option maxHeartbeats 4000000 in
theorem armed (n : Int) (ao : Option Addr) (len cap : Nat) (f : Nat → Bool) (w : World) (n0 : 0 ≤ n) (n1 : n ≤ 255) (hlen : len ≤ maxLen) (hf : Rv w ao (fun k => .bool (f k)) len) :
    Calls Try.prog 6 #[.int .u8 n, .slice ao len cap] w fun e w' => e = .returned (.bool true) ∧ Below w.heap.size w w' := by
  unfold maxLen at hlen
  obtain ⟨m, hm⟩ : ∃ m : Nat, n % 20 = (m : Int) := ⟨(n % 20).toNat, by omega⟩
  have hm20 : m < 20 := by omega
  have HM := Lib.hid hm
  have HF := Lib.hid hf
  clear hm hf
  go_enter Try.func6, Try.ntmps6
  go_wp2_with fail
  refine (awake_any _).mono ?_
  rintro e w1 ⟨rfl, hB1⟩
  have HB1 := Lib.hid hB1
  clear hB1
  go_wp2_with fail
  refine (new_ok 4 w1 (by decide) (by decide)).mono ?_
  rintro e w2 ⟨rfl, hP2, hB2⟩
  have HP2 := Lib.hid hP2
  have HB2 := Lib.hid hB2
  clear hP2 hB2
  go_wp2_with fail
  rw [HM.out]
  refine (arm_ok _ _ _ _ _ _ _ (1 + (m : Int)) w2 HP2.out rfl (by omega) (by omega)).mono ?_
  rintro e w3 ⟨rfl, v3, F3, hP3, hF3, hT3⟩
  have hI : ArmI w1.heap.size (w1.heap.size + 1) w1.heap.size m 0 w3 := ⟨v3, F3, 0, _, hP3, rfl, Nat.le_refl _, Nat.le_refl _, .inl ⟨Nat.zero_le _, rfl, by simp only; omega, rfl⟩⟩
  have hb3 := HB1.out.trans ((HB2.out.trans (hT3.below HP2.out.base HP2.out.low)).mono HB1.out.size)
  have HI := Lib.hid hI
  have HB3 := Lib.hid hb3
  clear hI hb3 hP3 hF3 hT3 HB2 HP2
  go_wp2_with fail
  go_loopw [26] (fun i wr => ∃ k : Nat, k ≤ 40 ∧ i = .int .i64 k ∧ ArmI w1.heap.size (w1.heap.size + 1) w1.heap.size m k wr ∧ Below w.heap.size w wr) (fun i _ => 40 - (intOf i).toNat)
  case atStart => exact ⟨0, Nat.zero_le _, rfl, HI.out, HB3.out⟩
  case round =>
    obtain ⟨k, hk, rfl, hI, hB⟩ := hrel
    have HIk := Lib.hid hI
    have HBk := Lib.hid hB
    clear hI hB HI HB3
    by_cases h40 : k < 40
    · by_cases hkl : k < len
      · obtain ⟨a, rfl, ha, hc⟩ := (HF.out.on HBk.out (Nat.le_refl _)) k hkl
        cases hfk : f k
        · simp only [hfk] at hc
          go_wp2_with fail
          refine (armI_write _ _ _ m k wr HIk.out h40 _ (by omega) (by omega) k (by omega) (by omega)).mono ?_
          rintro e w4 ⟨rfl, hI4, hB4⟩
          have HI4 := Lib.hid hI4
          have hB5 := HBk.out.trans (hB4.mono HB1.out.size)
          have HB5 := Lib.hid hB5
          clear hI4 hB4 hB5 hc
          have hm := HM.out
          rcases Nat.lt_trichotomy k m with hkm | hkm | hkm
          · rw [armF_lt hkm]
            have d1 : decide (k < m) = true := by simpa using hkm
            have d2 : ¬ ((1 : Int) + (m : Int) < (k : Int) + 1) := by omega
            have OP := Lib.hid (armI_ops1 _ _ _ _ _ _ HI4.out hkm)
            go_wp2_with (go_at_call 23; refine OP.out.mono ?_; rintro e _ ⟨rfl, rfl⟩)
            go_roundw
            case rel => exact ⟨k + 1, by omega, by go_num, HI4.out, HB5.out⟩
            case measure => simp [intOf]; omega
          · subst hkm
            rw [armF_ge (Nat.le_refl _)]
            have d1 : decide (k < k) = false := by simp
            have d2 : ¬ ((1 : Int) + (k : Int) < (k : Int) + 1) := by omega
            have d3 : (1 : Int) + (k : Int) = (k : Int) + 1 := by omega
            have OP := Lib.hid (armI_ops2 _ _ _ _ _ _ HI4.out (Nat.le_refl _))
            rw [d3] at OP
            clear d3
            go_wp2_with (go_at_call 23; refine OP.out.mono ?_; rintro e _ ⟨rfl, rfl⟩)
            go_roundw
            case rel => exact ⟨k + 1, by omega, by go_num, HI4.out, HB5.out⟩
            case measure => simp [intOf]; omega
          · rw [armF_ge (Nat.le_of_lt hkm)]
            have d1 : decide (k < m) = false := by simp; omega
            have d2 : ((1 : Int) + (m : Int) < (k : Int) + 1) := by omega
            have OP := Lib.hid (armI_ops2 _ _ _ _ _ _ HI4.out (Nat.le_of_lt hkm))
            go_wp2_with (go_at_call 23; refine OP.out.mono ?_; rintro e _ ⟨rfl, rfl⟩)
            go_roundw
            case rel => exact ⟨k + 1, by omega, by go_num, HI4.out, HB5.out⟩
            case measure => simp [intOf]; omega
        · simp only [hfk] at hc
          go_wp2_with fail
          refine (armI_flush _ _ _ m k wr HIk.out h40).mono ?_
          rintro e w4 ⟨rfl, hI4, hB4⟩
          have HI4 := Lib.hid hI4
          have hB5 := HBk.out.trans (hB4.mono HB1.out.size)
          have HB5 := Lib.hid hB5
          clear hI4 hB4 hB5 hc
          have hm := HM.out
          rcases Nat.lt_trichotomy k m with hkm | hkm | hkm
          · rw [armF_lt hkm]
            have d1 : decide (k < m) = true := by simpa using hkm
            have d2 : ¬ ((1 : Int) + (m : Int) < (k : Int) + 1) := by omega
            have OP := Lib.hid (armI_ops1 _ _ _ _ _ _ HI4.out hkm)
            go_wp2_with (go_at_call 23; refine OP.out.mono ?_; rintro e _ ⟨rfl, rfl⟩)
            go_roundw
            case rel => exact ⟨k + 1, by omega, by go_num, HI4.out, HB5.out⟩
            case measure => simp [intOf]; omega
          · subst hkm
            rw [armF_ge (Nat.le_refl _)]
            have d1 : decide (k < k) = false := by simp
            have d2 : ¬ ((1 : Int) + (k : Int) < (k : Int) + 1) := by omega
            have d3 : (1 : Int) + (k : Int) = (k : Int) + 1 := by omega
            have OP := Lib.hid (armI_ops2 _ _ _ _ _ _ HI4.out (Nat.le_refl _))
            rw [d3] at OP
            clear d3
            go_wp2_with (go_at_call 23; refine OP.out.mono ?_; rintro e _ ⟨rfl, rfl⟩)
            go_roundw
            case rel => exact ⟨k + 1, by omega, by go_num, HI4.out, HB5.out⟩
            case measure => simp [intOf]; omega
          · rw [armF_ge (Nat.le_of_lt hkm)]
            have d1 : decide (k < m) = false := by simp; omega
            have d2 : ((1 : Int) + (m : Int) < (k : Int) + 1) := by omega
            have OP := Lib.hid (armI_ops2 _ _ _ _ _ _ HI4.out (Nat.le_of_lt hkm))
            go_wp2_with (go_at_call 23; refine OP.out.mono ?_; rintro e _ ⟨rfl, rfl⟩)
            go_roundw
            case rel => exact ⟨k + 1, by omega, by go_num, HI4.out, HB5.out⟩
            case measure => simp [intOf]; omega
      · have hkl' : decide (k < len) = false := by simpa using hkl
        go_wp2_with fail
        refine (armI_write _ _ _ m k wr HIk.out h40 _ (by omega) (by omega) k (by omega) (by omega)).mono ?_
        rintro e w4 ⟨rfl, hI4, hB4⟩
        have HI4 := Lib.hid hI4
        have hB5 := HBk.out.trans (hB4.mono HB1.out.size)
        have HB5 := Lib.hid hB5
        clear hI4 hB4 hB5
        have hm := HM.out
        rcases Nat.lt_trichotomy k m with hkm | hkm | hkm
        · rw [armF_lt hkm]
          have d1 : decide (k < m) = true := by simpa using hkm
          have d2 : ¬ ((1 : Int) + (m : Int) < (k : Int) + 1) := by omega
          have OP := Lib.hid (armI_ops1 _ _ _ _ _ _ HI4.out hkm)
          go_wp2_with (go_at_call 23; refine OP.out.mono ?_; rintro e _ ⟨rfl, rfl⟩)
          go_roundw
          case rel => exact ⟨k + 1, by omega, by go_num, HI4.out, HB5.out⟩
          case measure => simp [intOf]; omega
        · subst hkm
          rw [armF_ge (Nat.le_refl _)]
          have d1 : decide (k < k) = false := by simp
          have d2 : ¬ ((1 : Int) + (k : Int) < (k : Int) + 1) := by omega
          have d3 : (1 : Int) + (k : Int) = (k : Int) + 1 := by omega
          have OP := Lib.hid (armI_ops2 _ _ _ _ _ _ HI4.out (Nat.le_refl _))
          rw [d3] at OP
          clear d3
          go_wp2_with (go_at_call 23; refine OP.out.mono ?_; rintro e _ ⟨rfl, rfl⟩)
          go_roundw
          case rel => exact ⟨k + 1, by omega, by go_num, HI4.out, HB5.out⟩
          case measure => simp [intOf]; omega
        · rw [armF_ge (Nat.le_of_lt hkm)]
          have d1 : decide (k < m) = false := by simp; omega
          have d2 : ((1 : Int) + (m : Int) < (k : Int) + 1) := by omega
          have OP := Lib.hid (armI_ops2 _ _ _ _ _ _ HI4.out (Nat.le_of_lt hkm))
          go_wp2_with (go_at_call 23; refine OP.out.mono ?_; rintro e _ ⟨rfl, rfl⟩)
          go_roundw
          case rel => exact ⟨k + 1, by omega, by go_num, HI4.out, HB5.out⟩
          case measure => simp [intOf]; omega
    · obtain rfl : k = 40 := by omega
      obtain ⟨v, F, nst, s, hP, hN, hn, ho, ⟨h1, _⟩ | ⟨h1, h2, h3⟩⟩ := HIk.out
      · omega
      · have hb := hP.blk
        rw [h2] at hb
        have c3 := (cells6 hb).2.2.2.1
        have HO := Lib.hid (on_at (w1.heap.size + 1) true wr c3)
        have HA := Lib.hid (arm_down (w1.heap.size + 1) 1 wr c3 (by decide))
        clear hP hN hn ho h1 h2 h3 hb c3
        go_wp2_with (first
          | (go_at_call 19; refine HO.out.mono ?_; rintro e _ ⟨rfl, rfl⟩)
          | (go_at_call 17; refine HA.out.mono ?_; rintro e _ ⟨rfl, rfl⟩))
        go_ret
        exact ⟨rfl, HBk.out⟩
end Go.Proofs.Ytjfbgihjgnbeeaa.Pl
