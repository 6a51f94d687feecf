/- The law on clocks, walked. -/
import Derived.Test.YtfennglfmngeiaaW3
namespace Go.Proofs.Ytfennglfmngeiaa.St
open Go Go.RowKit Go.Sort
theorem add_block (a : Addr) (k : Nat) : (a.add k).block = a.block := by unfold Addr.add; first | rfl | (split <;> rfl)
/-- From an address on these values stand, in blocks that are there. -/
def Rv (w : World) (ao : Option Addr) (f : Nat → Value) (n : Nat) : Prop :=
  ∀ k, k < n → ∃ a, ao = some a ∧ a.block < w.heap.size ∧ w.cell? (a.add k) = some (f k)
theorem Rv.on {w w' : World} {ao : Option Addr} {f : Nat → Value} {n : Nat} (h : Rv w ao f n) {B : Nat} (hb : Below B w w') (hB : w.heap.size ≤ B) : Rv w' ao f n := by
  intro k hk
  obtain ⟨a, h1, h2, h3⟩ := h k hk
  exact ⟨a, h1, Nat.lt_of_lt_of_le h2 hb.size, (hb.cell (p := a.add k) (by rw [add_block]; exact Nat.lt_of_lt_of_le h2 hB)).trans h3⟩
theorem nx_bounds {n x : Int} (h0 : 0 ≤ n) (h1 : n ≤ 18446744073709551615) (k0 : 0 ≤ x) (k1 : x ≤ 18446744073709551615) :
    n ≤ nx (max n x) ∧ nx (max n x) ≤ 18446744073709551615 := by
  unfold nx
  split <;> omega
set_option maxRecDepth 100000 in
set_option maxHeartbeats 4000000 in
theorem clocks (ao bo : Option Addr) (n m c d : Nat) (f : Nat → Int) (g : Nat → Bool) (w : World) (_hn : n ≤ maxLen) (_hm : m ≤ maxLen) (ha : Rv w ao (fun k => .int .u64 (f k)) n) (hb : Rv w bo (fun k => .bool (g k)) m)
    (hf : ∀ k, k < n → 0 ≤ f k ∧ f k ≤ 18446744073709551615) :
    Calls Try.prog 3 #[.slice ao n c, .slice bo m d] w fun e w' => e = .returned (.bool true) ∧ Below w.heap.size w w' := by
  unfold maxLen at _hn _hm
  have HA := Lib.hid ha
  have HB := Lib.hid hb
  have HF := Lib.hid hf
  clear ha hb hf
  go_enter Try.func3, Try.ntmps3
  go_wp2_with fail
  refine (awake_any _).mono ?_
  rintro e w1 ⟨rfl, hB1⟩
  go_wp2_with fail
  refine (new_clock _).mono ?_
  rintro e w2 ⟨rfl, rfl⟩
  have hs1 := hB1.size
  go_wp2_with fail
  go_loopw [7, 17] (fun v i wr => ∃ (q : Int) (j : Nat), j ≤ n ∧ i = .int .i64 j ∧ v = .int .u64 q ∧ 0 ≤ q ∧ q ≤ 18446744073709551615 ∧ wr.cell? ⟨w1.heap.size, 0, none⟩ = some (.int .u64 q) ∧ wr.frozen? ⟨w1.heap.size, 0, none⟩ = false ∧ Below w.heap.size w wr) (fun _ i _ => n - (intOf i).toNat)
  case atStart => exact ⟨0, 0, Nat.zero_le _, rfl, rfl, by decide, by decide, by simp, by simp, hB1.alloc hs1 _⟩
  case round =>
    obtain ⟨q, j, hj, rfl, rfl, q0, q1, hc, hfz, hB⟩ := hrel
    clear hB1
    by_cases hlt : j < n
    · obtain ⟨a, rfl, a1, a2⟩ := HA.out.on hB (Nat.le_refl _) j hlt
      obtain ⟨f0, f1⟩ := HF.out j hlt
      simp only [] at a2
      generalize f j = x at *
      by_cases h200 : 200 ≤ j
      · go_wp2
        go_ret
        exact ⟨rfl, hB⟩
      · have hN := nx_bounds q0 q1 f0 f1
        have hK := nx_bounds q0 q1 (Int.le_refl 0) (by decide)
        have cN := Lib.hid (fun w => next q x w q0 q1 f0 f1)
        have cK := Lib.hid (fun w => next q 0 w q0 q1 (by decide) (by decide))
        have cS := Lib.hid (fun w hc hf => see_at w1.heap.size q x w hc hf q0 q1 f0 f1)
        have cT := Lib.hid (fun w hc hf => tick_at w1.heap.size q w hc hf q0 q1)
        rw [show max x q = max q x by omega] at cS
        rw [show max q 0 = q by omega] at cK hK
        generalize nx (max q x) = u at *
        generalize nx q = v at *
        obtain ⟨u0, u1⟩ := hN
        obtain ⟨t0, t1⟩ := hK
        clear HF HA
        by_cases hjm : j < m
        · obtain ⟨b, rfl, b1, b2⟩ := HB.out.on hB (Nat.le_refl _) j hjm
          simp only [] at b2
          clear HB
          generalize g j = y at *
          cases y
          · go_wp2_with fail
            refine (cN.out _).mono ?_
            rintro e w3 ⟨rfl, rfl⟩
            go_wp2_with fail
            refine (cS.out _ hc hfz).mono ?_
            rintro e w4 ⟨rfl, rfl⟩
            go_wp2_with fail
            refine (now_at w1.heap.size u _ (World.cell?_setCell_same _ _ _ hc)).mono ?_
            rintro e w4 ⟨rfl, rfl⟩
            go_wp2_with fail
            refine (see_nil _ _).mono ?_
            rintro e w4 ⟨rfl, rfl⟩
            go_wp2_with fail
            refine (tick_nil _).mono ?_
            rintro e w4 ⟨rfl, rfl⟩
            go_wp2_with fail
            refine (now_nil _).mono ?_
            rintro e w4 ⟨rfl, rfl⟩
            go_wp2_with fail
            go_roundw
            case rel => exact ⟨u, j + 1, by omega, by go_num, rfl, by omega, u1, World.cell?_setCell_same _ _ _ hc, (World.frozen?_setCell _ _ _ _).trans hfz, hB.setCell (p := ⟨w1.heap.size, 0, none⟩) hs1 _⟩
            case measure => simp [intOf]; omega
          · go_wp2_with fail
            refine (cK.out _).mono ?_
            rintro e w3 ⟨rfl, rfl⟩
            go_wp2_with fail
            refine (cT.out _ hc hfz).mono ?_
            rintro e w4 ⟨rfl, rfl⟩
            go_wp2_with fail
            refine (now_at w1.heap.size v _ (World.cell?_setCell_same _ _ _ hc)).mono ?_
            rintro e w4 ⟨rfl, rfl⟩
            go_wp2_with fail
            refine (see_nil _ _).mono ?_
            rintro e w4 ⟨rfl, rfl⟩
            go_wp2_with fail
            refine (tick_nil _).mono ?_
            rintro e w4 ⟨rfl, rfl⟩
            go_wp2_with fail
            refine (now_nil _).mono ?_
            rintro e w4 ⟨rfl, rfl⟩
            go_wp2_with fail
            go_roundw
            case rel => exact ⟨v, j + 1, by omega, by go_num, rfl, by omega, t1, World.cell?_setCell_same _ _ _ hc, (World.frozen?_setCell _ _ _ _).trans hfz, hB.setCell (p := ⟨w1.heap.size, 0, none⟩) hs1 _⟩
            case measure => simp [intOf]; omega
        · go_wp2_with fail
          refine (cN.out _).mono ?_
          rintro e w3 ⟨rfl, rfl⟩
          go_wp2_with fail
          refine (cS.out _ hc hfz).mono ?_
          rintro e w4 ⟨rfl, rfl⟩
          go_wp2_with fail
          refine (now_at w1.heap.size u _ (World.cell?_setCell_same _ _ _ hc)).mono ?_
          rintro e w4 ⟨rfl, rfl⟩
          go_wp2_with fail
          refine (see_nil _ _).mono ?_
          rintro e w4 ⟨rfl, rfl⟩
          go_wp2_with fail
          refine (tick_nil _).mono ?_
          rintro e w4 ⟨rfl, rfl⟩
          go_wp2_with fail
          refine (now_nil _).mono ?_
          rintro e w4 ⟨rfl, rfl⟩
          go_wp2_with fail
          go_roundw
          case rel => exact ⟨u, j + 1, by omega, by go_num, rfl, by omega, u1, World.cell?_setCell_same _ _ _ hc, (World.frozen?_setCell _ _ _ _).trans hfz, hB.setCell (p := ⟨w1.heap.size, 0, none⟩) hs1 _⟩
          case measure => simp [intOf]; omega
    · go_wp2
      go_ret
      exact ⟨rfl, hB⟩
end Go.Proofs.Ytfennglfmngeiaa.St
