/- The walk of the document's Text. -/
import Derived.Test.YtnjapbfnodfgpaaW22
namespace Go.Proofs.Ytnjapbfnodfgpaa.Rk
open Go Go.RowKit
set_option maxHeartbeats 2000000 in
theorem refText_some (a : Addr) (n c : Nat) (l : List Int) (w : World) (hn : n ≤ 1099511627776) (hl : l.length = n) (ha0 : a.block < w.heap.size) (hca : ∀ k, k < n → w.cell? (a.add k) = some (.int .u8 (l.getD k 0))) :
    Calls Try.prog 17 #[.slice (some a) n c] w fun e w' => ∃ v, e = .returned v ∧ Own w' w.heap.size v (textC l) ∧ Below w.heap.size w w' := by
  obtain ⟨i0, hi, hz0, hz1, hz2⟩ := info_parts info5
  have HA := Lib.hid hca
  have HL := Lib.hid hl
  clear hca hl
  go_enter Try.func17, Try.ntmps17
  go_wp2
  go_loopw [3, 8] (fun v i wr => ∃ j : Nat, j ≤ n ∧ i = .int .i64 j ∧ Hid (Own wr w.heap.size v (esc (l.take j))) ∧ Below w.heap.size w wr) (fun _ i _ => n - (intOf i).toNat)
  case atStart => exact ⟨0, Nat.zero_le _, rfl, Lib.hid (World.ownsRow_nil _ _ _ _), Below.refl _ _⟩
  case round =>
    obtain ⟨j, hj, rfl, hown, hB⟩ := hrel
    have hBs := hB.size
    have hlen := esc_take_len l j (by rw [HL.out]; exact hj)
    rw [HL.out] at hlen
    by_cases hlt : j < n
    · have c1 := (hB.cell (p := a.add j) (by rw [add_block]; exact ha0)).trans (HA.out j hlt)
      have Hn := Lib.hid (esc_take (l := l) (j := j) (by rw [HL.out]; exact hlt))
      generalize esc (l.take j) = E at *
      by_cases h0 : l.getD j 0 = 0
      · rw [h0] at c1
        have Hn2 : Hid (esc (l.take (j + 1)) = E ++ [0] ++ [255]) := by
          have := Hn.out
          rw [if_pos h0] at this
          show _ = _
          rw [this]; simp
        clear Hn h0
        go_wp2_with (first
          | (at_builtin; refine wpList_append_own _ rfl (.tmp 12) (.tmp 14) 23 rfl w.heap.size 5 i0 _ 1 1 Try.underlying23 hi hz0 hz1 hz2 rfl (by decide) _ E.length (bs E) rfl (World.ownsRow.alloc hown.out _) ⟨wr.heap.size, 0, none⟩ 1 1 (bs [0]) rfl rfl (one_cell wr 0) (bs_one [0]) (by unfold maxLen; omega) (by omega) (by simp; omega) ?_; intro v3 w3 hown3 hgrow3 _; have hB3 : Below w.heap.size w w3 := (hB.alloc hB.size _).grown hgrow3 (by simp; omega) (fun k hk => (World.ownsRow.lt hown.out k hk).1); have hOwn3 := Lib.hid (Own.put hown3 rfl rfl); clear hgrow3 hown3 hown hB c1; have hBs3 := hB3.size)
          | (at_builtin; refine wpList_append_own _ rfl (.tmp 18) (.tmp 19) 23 rfl w.heap.size 5 i0 _ 1 1 Try.underlying23 hi hz0 hz1 hz2 rfl (by decide) _ (E ++ [0]).length (bs (E ++ [0])) rfl (World.ownsRow.alloc hOwn3.out _) ⟨w3.heap.size, 0, none⟩ 1 1 (bs [255]) rfl rfl (one_cell w3 255) (bs_one [255]) (by simp; unfold maxLen; omega) (by simp; omega) (by simp; omega) ?_; intro v4 w4 hown4 hgrow4 _))
        have hB4 : Below w.heap.size w w4 := (hB3.alloc hB3.size _).grown hgrow4 (by simp; omega) (fun k hk => (World.ownsRow.lt hOwn3.out k hk).1)
        have hOwn4 : Hid (Own w4 w.heap.size v4 (esc (l.take (j + 1)))) := by rw [Hn2.out]; exact Own.put hown4 rfl rfl
        clear hgrow4 hown4 hOwn3 hB3
        go_wp2
        go_roundw
        case rel => exact ⟨j + 1, by omega, by go_num, hOwn4, hB4⟩
        case measure => simp [intOf]; omega
      · have hx : (l.getD j 0 == 0) = false := by rw [beq_eq_false_iff_ne]; exact h0
        have Hn2 : Hid (esc (l.take (j + 1)) = E ++ [l.getD j 0]) := by
          have := Hn.out
          rw [if_neg h0] at this
          exact this
        clear Hn h0
        generalize l.getD j 0 = x at *
        go_wp2_with (at_builtin; refine wpList_append_own _ rfl (.tmp 12) (.tmp 14) 23 rfl w.heap.size 5 i0 _ 1 1 Try.underlying23 hi hz0 hz1 hz2 rfl (by decide) _ E.length (bs E) rfl (World.ownsRow.alloc hown.out _) ⟨wr.heap.size, 0, none⟩ 1 1 (bs [x]) rfl rfl (one_cell wr x) (bs_one [x]) (by unfold maxLen; omega) (by omega) (by simp; omega) ?_; intro v3 w3 hown3 hgrow3 _)
        have hB3 : Below w.heap.size w w3 := (hB.alloc hB.size _).grown hgrow3 (by simp; omega) (fun k hk => (World.ownsRow.lt hown.out k hk).1)
        have hOwn3 : Hid (Own w3 w.heap.size v3 (esc (l.take (j + 1)))) := by rw [Hn2.out]; exact Own.put hown3 rfl rfl
        clear hgrow3 hown3 hown hB c1
        go_wp2
        go_roundw
        case rel => exact ⟨j + 1, by omega, by go_num, hOwn3, hB3⟩
        case measure => simp [intOf]; omega
    · obtain rfl : j = n := by omega
      rw [List.take_of_length_le (by rw [HL.out]; omega)] at hown hlen
      generalize hE : esc l = E at *
      have HE := Lib.hid hE
      clear hE
      go_wp2_with (at_builtin; refine wpList_append_own _ rfl (.tmp 22) (.tmp 23) 23 rfl w.heap.size 5 i0 _ 1 1 Try.underlying23 hi hz0 hz1 hz2 rfl (by decide) _ E.length (bs E) rfl (World.ownsRow.alloc hown.out _) ⟨wr.heap.size, 0, none⟩ 2 2 (bs [0, 0]) rfl rfl (two_cells wr 0 0) (bs_one [0, 0]) (by unfold maxLen; omega) (by omega) (by simp; omega) ?_; intro v3 w3 hown3 hgrow3 _)
      have hB3 : Below w.heap.size w w3 := (hB.alloc hB.size _).grown hgrow3 (by simp; omega) (fun k hk => (World.ownsRow.lt hown.out k hk).1)
      have hOwn3 : Hid (Own w3 w.heap.size v3 (textC l)) := by unfold textC; rw [HE.out]; exact Own.put hown3 rfl rfl
      clear hgrow3 hown3
      go_ret
      exact ⟨v3, rfl, hOwn3.out, hB3⟩
set_option maxHeartbeats 1000000 in
theorem refText_none (ao : Option Addr) (c : Nat) (w : World) :
    Calls Try.prog 17 #[.slice ao 0 c] w fun e w' => ∃ v, e = .returned v ∧ Own w' w.heap.size v (textC []) ∧ Below w.heap.size w w' := by
  obtain ⟨i0, hi, hz0, hz1, hz2⟩ := info_parts info5
  have hO : Own w w.heap.size (.slice none 0 0) [] := World.ownsRow_nil _ _ _ _
  have HO := Lib.hid hO
  clear hO
  go_enter Try.func17, Try.ntmps17
  go_wp2
  refine wp_loop_rounds 1 ?_
  rw [rounds_succ]
  go_wp2_with (at_builtin; refine wpList_append_own _ rfl (.tmp 22) (.tmp 23) 23 rfl w.heap.size 5 i0 _ 1 1 Try.underlying23 hi hz0 hz1 hz2 rfl (by decide) _ 0 (bs []) rfl (World.ownsRow.alloc HO.out _) ⟨w.heap.size, 0, none⟩ 2 2 (bs [0, 0]) rfl rfl (two_cells w 0 0) (bs_one [0, 0]) (by unfold maxLen; omega) (by omega) (by simp) ?_; intro v3 w3 hown3 hgrow3 _)
  have hB3 : Below w.heap.size w w3 := ((Below.refl _ w).alloc (Nat.le_refl _) _).grown hgrow3 (by simp) (fun k hk => (World.ownsRow.lt HO.out k hk).1)
  have hOwn3 : Hid (Own w3 w.heap.size v3 (textC [])) := Own.put (l := []) (m := [0, 0]) hown3 rfl rfl
  clear hgrow3 hown3
  go_ret
  exact ⟨v3, rfl, hOwn3.out, hB3⟩
theorem refText_any (ao : Option Addr) (n c : Nat) (l : List Int) (w : World) (hn : n ≤ 1099511627776) (hl : l.length = n) (ha : Rd w ao l) :
    Calls Try.prog 17 #[.slice ao n c] w fun e w' => ∃ v, e = .returned v ∧ Own w' w.heap.size v (textC l) ∧ Below w.heap.size w w' := by
  subst hl
  by_cases h : l = []
  · subst h
    exact refText_none ao c w
  · obtain ⟨a, rfl, h1, h2⟩ := ha.here h
    exact refText_some a _ c l w hn rfl h1 h2
end Go.Proofs.Ytnjapbfnodfgpaa.Rk
