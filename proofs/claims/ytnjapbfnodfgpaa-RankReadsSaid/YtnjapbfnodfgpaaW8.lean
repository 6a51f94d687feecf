/- The walk of Text. -/
import Derived.Test.YtnjapbfnodfgpaaW7
namespace Go.Proofs.Ytnjapbfnodfgpaa.Rk
open Go Go.RowKit
theorem esc_len (l : List Int) : (esc l).length ≤ 2 * l.length := by
  induction l with
  | nil => simp [esc]
  | cons b l ih => rw [esc_cons, List.length_append, List.length_cons]; split <;> simp <;> omega
theorem esc_take {l : List Int} {j : Nat} (h : j < l.length) : esc (l.take (j + 1)) = esc (l.take j) ++ (if l.getD j 0 = 0 then [0, 255] else [l.getD j 0]) := by
  rw [List.take_succ_eq_append_getElem h, esc_app, List.getD_eq_getElem?_getD, List.getElem?_eq_getElem h]
  simp [esc]
theorem esc_take_len (l : List Int) (j : Nat) (h : j ≤ l.length) : (esc (l.take j)).length ≤ 2 * l.length := by
  have := esc_len (l.take j)
  rw [List.length_take] at this
  omega
theorem Own.put {w' : World} {B : Nat} {v' : Value} {l m : List Int} {n k : Nat} (h : w'.ownsRow B 5 1 v' (n + k) (bs l ++ bs m)) (hn : l.length = n) (hk : m.length = k) : Own w' B v' (l ++ m) := by
  unfold Own
  rw [List.length_append, hn, hk, bs_app]
  exact h
theorem two_cells (w : World) (x y : Int) : ∀ j u, [Value.int .u8 x, Value.int .u8 y][j]? = some u → (w.alloc (.cells #[.int .u8 x, .int .u8 y] 5)).cell? ((⟨w.heap.size, 0, none⟩ : Addr).add j) = some u := by
  intro j u hu
  match j, hu with
  | 0, hu => simp at hu; subst hu; simp [Addr.add]
  | 1, hu => simp at hu; subst hu; simp [Addr.add]
set_option maxHeartbeats 2000000 in
theorem text_some (a : Addr) (n c : Nat) (l : List Int) (w : World) (hn : n ≤ 1099511627776) (hl : l.length = n) (ha0 : a.block < w.heap.size) (hca : ∀ k, k < n → w.cell? (a.add k) = some (.int .u8 (l.getD k 0))) :
    Calls Try.prog 13 #[.slice (some a) n c] w fun e w' => ∃ v, e = .returned v ∧ Own w' w.heap.size v (textC l) ∧ Below w.heap.size w w' := by
  obtain ⟨i0, hi, hz0, hz1, hz2⟩ := info_parts info5
  have HA := Lib.hid hca
  have HL := Lib.hid hl
  have hR : Rd (w.alloc (.cells #[.int .u8 0] 5)) (some a) l := by
    refine Rd.on (w := w) ?_ (B := w.heap.size) ((Below.refl _ _).alloc (Nat.le_refl _) _) (Nat.le_refl _)
    intro k hk
    exact ⟨a, rfl, ha0, hca k (by omega)⟩
  have hC := count_any (some a) l c w.heap.size 0 1 0 _ hR (by simp)
  rw [hl] at hC
  have HC := Lib.hid hC
  clear hca hl hR hC
  go_enter Try.func13, Try.ntmps13
  go_wp2_with fail
  refine HC.out.mono ?_
  clear HC
  rintro e w1 ⟨k, hk, rfl, hw⟩
  have Hw := Lib.hid hw
  clear hw
  go_wp2_with (at_make; refine wpList_make_own _ rfl (.const (.int .i64 0)) (.tmp 12) 23 rfl w.heap.size 5 i0 (.int .u8 0) 1 Try.underlying23 hi hz0 hz1 .i64 .i64 _ (n + k + 2) rfl rfl rfl (by rw [hz2]; omega) (by unfold maxLen; omega) (by rw [Hw.out]; simp) ?_; intro w2 hown hgrow)
  have hB1 : Below w.heap.size w w1 := by rw [Hw.out]; exact (Below.refl _ _).alloc (Nat.le_refl _) _
  have hB2 : Below w.heap.size w w2 := hB1.grown hgrow hB1.size (fun k hk => by cases hk)
  have Hown : Hid (Own w2 w.heap.size (.slice (some ⟨w1.heap.size, 0, none⟩) 0 (n + k + 2)) []) := hown
  clear hgrow hown hB1
  generalize w1.heap.size = G at *
  go_loopw [3, 16] (fun v i wr => ∃ j : Nat, j ≤ n ∧ i = .int .i64 j ∧ Hid (Own wr w.heap.size v (esc (l.take j))) ∧ Below w.heap.size w wr) (fun _ i _ => n - (intOf i).toNat)
  case atStart => exact ⟨0, Nat.zero_le _, rfl, Hown, hB2⟩
  case round =>
    obtain ⟨j, hj, rfl, hown, hB⟩ := hrel
    have hBs := hB.size
    have hlen := esc_take_len l j (by rw [HL.out]; exact hj)
    rw [HL.out] at hlen
    by_cases hlt : j < n
    · have c1 := (hB.cell (p := a.add j) (by rw [add_block]; exact ha0)).trans (HA.out j hlt)
      have Hn := Lib.hid (esc_take (l := l) (j := j) (by rw [HL.out]; exact hlt))
      generalize esc (l.take j) = E at *
      by_cases h0 : l.getD j 0 = 0
      · rw [h0] at c1
        have Hn2 : Hid (esc (l.take (j + 1)) = E ++ [0] ++ [255]) := by
          have := Hn.out
          rw [if_pos h0] at this
          show _ = _
          rw [this]; simp
        clear Hn h0
        go_wp2_with (first
          | (at_builtin; refine wpList_append_own _ rfl (.tmp 20) (.tmp 22) 23 rfl w.heap.size 5 i0 _ 1 1 Try.underlying23 hi hz0 hz1 hz2 rfl (by decide) _ E.length (bs E) rfl (World.ownsRow.alloc hown.out _) ⟨wr.heap.size, 0, none⟩ 1 1 (bs [0]) rfl rfl (one_cell wr 0) (bs_one [0]) (by unfold maxLen; omega) (by omega) (by simp; omega) ?_; intro v3 w3 hown3 hgrow3 _; have hB3 : Below w.heap.size w w3 := (hB.alloc hB.size _).grown hgrow3 (by simp; omega) (fun k hk => (World.ownsRow.lt hown.out k hk).1); have hOwn3 := Lib.hid (Own.put hown3 rfl rfl); clear hgrow3 hown3 hown hB c1; have hBs3 := hB3.size)
          | (at_builtin; refine wpList_append_own _ rfl (.tmp 26) (.tmp 27) 23 rfl w.heap.size 5 i0 _ 1 1 Try.underlying23 hi hz0 hz1 hz2 rfl (by decide) _ (E ++ [0]).length (bs (E ++ [0])) rfl (World.ownsRow.alloc hOwn3.out _) ⟨w3.heap.size, 0, none⟩ 1 1 (bs [255]) rfl rfl (one_cell w3 255) (bs_one [255]) (by simp; unfold maxLen; omega) (by simp; omega) (by simp; omega) ?_; intro v4 w4 hown4 hgrow4 _))
        have hB4 : Below w.heap.size w w4 := (hB3.alloc hB3.size _).grown hgrow4 (by simp; omega) (fun k hk => (World.ownsRow.lt hOwn3.out k hk).1)
        have hOwn4 : Hid (Own w4 w.heap.size v4 (esc (l.take (j + 1)))) := by rw [Hn2.out]; exact Own.put hown4 rfl rfl
        clear hgrow4 hown4 hOwn3 hB3
        go_wp2
        go_roundw
        case rel => exact ⟨j + 1, by omega, by go_num, hOwn4, hB4⟩
        case measure => simp [intOf]; omega
      · have hx : (l.getD j 0 == 0) = false := by rw [beq_eq_false_iff_ne]; exact h0
        have Hn2 : Hid (esc (l.take (j + 1)) = E ++ [l.getD j 0]) := by
          have := Hn.out
          rw [if_neg h0] at this
          exact this
        clear Hn h0
        generalize l.getD j 0 = x at *
        go_wp2_with (at_builtin; refine wpList_append_own _ rfl (.tmp 20) (.tmp 22) 23 rfl w.heap.size 5 i0 _ 1 1 Try.underlying23 hi hz0 hz1 hz2 rfl (by decide) _ E.length (bs E) rfl (World.ownsRow.alloc hown.out _) ⟨wr.heap.size, 0, none⟩ 1 1 (bs [x]) rfl rfl (one_cell wr x) (bs_one [x]) (by unfold maxLen; omega) (by omega) (by simp; omega) ?_; intro v3 w3 hown3 hgrow3 _)
        have hB3 : Below w.heap.size w w3 := (hB.alloc hB.size _).grown hgrow3 (by simp; omega) (fun k hk => (World.ownsRow.lt hown.out k hk).1)
        have hOwn3 : Hid (Own w3 w.heap.size v3 (esc (l.take (j + 1)))) := by rw [Hn2.out]; exact Own.put hown3 rfl rfl
        clear hgrow3 hown3 hown hB c1
        go_wp2
        go_roundw
        case rel => exact ⟨j + 1, by omega, by go_num, hOwn3, hB3⟩
        case measure => simp [intOf]; omega
    · obtain rfl : j = n := by omega
      rw [List.take_of_length_le (by rw [HL.out]; omega)] at hown hlen
      generalize hE : esc l = E at *
      have HE := Lib.hid hE
      clear hE
      go_wp2_with (at_builtin; refine wpList_append_own _ rfl (.tmp 30) (.tmp 31) 23 rfl w.heap.size 5 i0 _ 1 1 Try.underlying23 hi hz0 hz1 hz2 rfl (by decide) _ E.length (bs E) rfl (World.ownsRow.alloc hown.out _) ⟨wr.heap.size, 0, none⟩ 2 2 (bs [0, 0]) rfl rfl (two_cells wr 0 0) (bs_one [0, 0]) (by unfold maxLen; omega) (by omega) (by simp; omega) ?_; intro v3 w3 hown3 hgrow3 _)
      have hB3 : Below w.heap.size w w3 := (hB.alloc hB.size _).grown hgrow3 (by simp; omega) (fun k hk => (World.ownsRow.lt hown.out k hk).1)
      have hOwn3 : Hid (Own w3 w.heap.size v3 (textC l)) := by unfold textC; rw [HE.out]; exact Own.put hown3 rfl rfl
      clear hgrow3 hown3
      go_ret
      exact ⟨v3, rfl, hOwn3.out, hB3⟩
end Go.Proofs.Ytnjapbfnodfgpaa.Rk
