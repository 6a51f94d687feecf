/- The walk of the document's Int. -/
import Derived.Test.YtnjapbfnodfgpaaW23
import Derived.BigRegion
namespace Go.Proofs.Ytnjapbfnodfgpaa.Rk
open Go Go.RowKit
theorem bs_inj : ∀ {l m : List Int}, bs l = bs m → l = m
  | [], [], _ => rfl
  | [], _ :: _, h => by simp [bs] at h
  | _ :: _, [], h => by simp [bs] at h
  | x :: l, y :: m, h => by
    simp only [bs, List.map_cons, List.cons.injEq, Value.int.injEq, true_and] at h
    rw [h.1, bs_inj h.2]
/-- What the document's Uint gives: one byte, and the number's. -/
def UintR (n : Nat) (w : World) (e : Ending) (w' : World) : Prop :=
  ∃ g c, e = .returned (.slice (some ⟨g, 0, none⟩) (len256 n + 1) c) ∧ (w.heap.size ≤ g ∧ g < w'.heap.size ∧ len256 n + 1 ≤ c ∧ c ≤ maxLen ∧ w'.cell? ⟨g, 0, none⟩ = some (.int .u8 (len256 n : Int)) ∧ Rd w' (some ⟨g, 1, none⟩) (dig n)) ∧ Below w.heap.size w w'
theorem refUint_gives (n : Nat) (hn : n < 18446744073709551616) (w : World) : Calls Try.prog 15 #[.int .u64 n] w (UintR n w) := by
  refine (gives_some (uintC_pos_len n) (refUint_any n hn w)).mono ?_
  rintro e w' ⟨g, c, rfl, ⟨ho, hr⟩, hb⟩
  have hl : (uintC n).length = len256 n + 1 := by unfold uintC; rw [List.length_cons, dig_length]
  rw [hl] at ho ⊢
  have ho' : w'.ownsRow w.heap.size 5 1 (.slice (some ⟨g, 0, none⟩) (len256 n + 1) c) (len256 n + 1) (bs (uintC n)) := by unfold Own at ho; rwa [hl] at ho
  have hlt := World.ownsRow.lt ho' g rfl
  have hr' : Rd w' (some ⟨g, 0, none⟩) ((len256 n : Int) :: dig n) := hr
  have c0 := hr' 0 (by simp)
  obtain ⟨a, h1, _, h3⟩ := c0
  cases h1
  rw [addr0] at h3
  refine ⟨g, c, rfl, ⟨hlt.1, hlt.2, (own_cap ho').1, (own_cap ho').2, h3, ?_⟩, hb⟩
  exact hr'.tail
set_option maxHeartbeats 3000000 in
theorem refInt_pos (n : Nat) (hn : n < 9223372036854775808) (hp : 0 < len256 n) (w : World) :
    Calls Try.prog 16 #[.int .i64 n] w fun e w' => ∃ v, e = .returned v ∧ Own w' w.heap.size v (intC n) ∧ Below w.heap.size w w' := by
  obtain ⟨i0, hi, hz0, hz1, hz2⟩ := info_parts info5
  have hk8 := len256_le n (by omega)
  have hW := refUint_gives n (by omega) w
  have hL := dig_length n
  unfold UintR at hW
  rw [intC_pos]
  unfold Own
  generalize len256 n = k at *
  generalize dig n = D at *
  have HL := Lib.hid hL
  have HW := Lib.hid hW
  clear hL hW
  go_enter Try.func16, Try.ntmps16
  go_wp2_with fail
  refine HW.out.mono ?_
  clear HW
  rintro e w1 ⟨g, c, rfl, ⟨hg0, hg1, hc1, hc2, h0, hr⟩, hB⟩
  unfold maxLen at hc2
  have hcc : ¬ c = 1 := by omega
  have hBs := hB.size
  have hb2 : Below w1.heap.size w1 (w1.alloc (.cells #[.int .u8 (16 + (k : Int))] 5)).drew := ((Below.refl _ _).alloc (Nat.le_refl _) _).drew
  have Hrd := Lib.hid (rd_cells (hr.on hb2 (Nat.le_refl _)))
  have hO := Lib.hid ((World.ownsRow_lit (base := w.heap.size) (e := 5) (size := 1) w1 #[.int .u8 (16 + (k : Int))] 1 hBs (by unfold maxLen; omega) rfl).drew)
  have Hbl := Lib.hid ((bs_length D).trans (HL.out.trans (Nat.mul_one k).symm))
  have hbb := hB.trans (hb2.mono hBs)
  have hk0 := (hb2.cell (p := ⟨g, 0, none⟩) hg1).trans h0
  clear hr hb2
  have s1 : (1 : Int) ≤ (k : Int) + 1 := by omega
  have s2 : (1 : Int) ≤ (c : Int) := by omega
  have s3 : (0 : Int) ≤ 1 := by decide
  have s4 : (k : Int) + 1 ≤ (c : Int) := by omega
  have s5 : k + 1 - 1 = k := by omega
  have s6 : IntKind.u8.wrap (16 + (k : Int)) = 16 + (k : Int) := by simp [IntKind.wrap, IntKind.bits, IntKind.signed]; omega
  go_wp2_with fail
  go_region_held3 (fun w' => w'.cell? ⟨g, 0, none⟩ = some (.int .u8 (k : Int))) (first | exact h0 | exact k0 | go_keep)
    ((refine step_append_lies _ (by rfl) _ _ _ (by rfl) w.heap.size 5 i0 _ 1 1 Try.underlying23 hi hz0 hz1 hz2 (by rfl) (by decide) _ 1 [.int .u8 (16 + (k : Int))] (by rfl) hO.out ⟨g, 1, none⟩ k (c - 1) (bs D) (by rfl) Hbl.out Hrd.out (bs_one D) hp (by unfold maxLen; omega) (by omega) (by simp; omega) (w1.heap.size + 1) (by simp) ?_; intro g3 c3 w3 hown3 hgrow _ _; have k0 := (hgrow.cell_far ⟨g, 0, none⟩ (show g < (w1.alloc (.cells #[.int .u8 (16 + (k : Int))] 5)).heap.size by simp; omega) (by simp [Value.ownBlock]; omega)).trans hk0))
  all_goals
    have hB3 : Below w.heap.size w w3 := hbb.grown hgrow hbb.size (fun k hk => by simp [Value.ownBlock] at hk; omega)
    have hown4 : w3.ownsRow w.heap.size 5 1 (.slice (some ⟨g3, 0, none⟩) (1 + k) c3) (1 + k) (bs ((16 + (k : Int)) :: D)) := hown3
    have hown5 : w3.ownsRow w.heap.size 5 1 (.slice (some ⟨g3, 0, none⟩) (1 + k) c3) ((16 + (k : Int)) :: D).length (bs ((16 + (k : Int)) :: D)) := by rw [List.length_cons, HL.out, Nat.add_comm k 1]; exact hown4
    go_wp2_with fail
    go_ret
    exact ⟨_, rfl, hown5, hB3⟩
set_option maxHeartbeats 3000000 in
theorem refInt_zero (w : World) :
    Calls Try.prog 16 #[.int .i64 0] w fun e w' => ∃ v, e = .returned v ∧ Own w' w.heap.size v [16] ∧ Below w.heap.size w w' := by
  have hW := refUint_gives 0 (by decide) w
  unfold UintR at hW
  have e0 : len256 0 = 0 := rfl
  rw [e0] at hW
  have HW := Lib.hid hW
  clear hW e0
  go_enter Try.func16, Try.ntmps16
  go_wp2_with fail
  refine HW.out.mono ?_
  clear HW
  rintro e w1 ⟨g, c, rfl, ⟨hg0, hg1, hc1, hc2, h0, hr⟩, hB⟩
  unfold maxLen at hc2
  have hBs := hB.size
  have hO := (World.ownsRow_lit (base := w.heap.size) (e := 5) (size := 1) w1 #[.int .u8 16] 1 hBs (by unfold maxLen; omega) rfl).drew
  have hb2 : Below w.heap.size w (w1.alloc (.cells #[.int .u8 16] 5)).drew := (hB.alloc hBs _).drew
  by_cases hc : c = 1
  · subst hc
    go_wp2_with fail
    go_region
    all_goals (go_wp2_with fail)
    all_goals
      go_ret
      exact ⟨_, rfl, hO, hb2⟩
  · go_wp2_with fail
    go_region
    all_goals (go_wp2_with fail)
    all_goals
      go_ret
      exact ⟨_, rfl, hO, hb2⟩
set_option maxHeartbeats 3000000 in
theorem refInt_neg (n : Nat) (hn : n < 9223372036854775808) (w : World) :
    Calls Try.prog 16 #[.int .i64 (-1 - (n : Int))] w fun e w' => ∃ v, e = .returned v ∧ Own w' w.heap.size v (intC (-1 - (n : Int))) ∧ Below w.heap.size w w' := by
  obtain ⟨i0, hi, hz0, hz1, hz2⟩ := info_parts info5
  have hk8 := len256_le n (by omega)
  have hW := refUint_gives n (by omega) w
  have hL := dig_length n
  have hby := dig_byte n
  unfold UintR at hW
  rw [intC_neg]
  generalize len256 n = k at *
  generalize dig n = D at *
  have HL := Lib.hid hL
  have HW := Lib.hid hW
  have Hb := Lib.hid hby
  clear hL hW hby
  go_enter Try.func16, Try.ntmps16
  go_wp2_with fail
  rw [show (-1 - (-1 - (n : Int))) = (n : Int) by omega]
  refine HW.out.mono ?_
  clear HW
  rintro e wo ⟨g, c, rfl, ⟨hg0, hg1, hc1, hc2, h0, hr⟩, hB⟩
  unfold maxLen at hc2
  have hBs := hB.size
  by_cases hk : k = 0
  · subst hk
    have hD : D = [] := List.length_eq_zero_iff.1 HL.out
    subst hD
    by_cases hc : c = 1
    · subst hc
      go_wp2_with fail
      refine wp_loop_rounds 1 ?_
      rw [rounds_succ]
      go_wp2_with fail
      go_ret
      exact ⟨_, rfl, World.ownsRow_lit (base := w.heap.size) (e := 5) (size := 1) wo #[.int .u8 15] 1 hBs (by unfold maxLen; omega) rfl, hB.alloc hBs _⟩
    · go_wp2_with fail
      refine wp_loop_rounds 1 ?_
      rw [rounds_succ]
      go_wp2_with fail
      go_ret
      exact ⟨_, rfl, World.ownsRow_lit (base := w.heap.size) (e := 5) (size := 1) wo #[.int .u8 15] 1 hBs (by unfold maxLen; omega) rfl, hB.alloc hBs _⟩
  · have hcc : ¬ c = 1 := by omega
    obtain ⟨a, ha, a1, a2⟩ := hr.here (fun e => hk (by rw [← HL.out, e]; rfl))
    cases ha
    rw [HL.out] at a2
    have HA := Lib.hid a2
    clear a2 hr
    go_wp2_with fail
    go_loopw [5, 33] (fun v i wq => ∃ t : Nat, t ≤ k ∧ i = .int .i64 t ∧ Hid (Own wq wo.heap.size v ((15 - (k : Int)) :: tn (D.take t))) ∧ Below wo.heap.size wo wq) (fun _ i _ => k - (intOf i).toNat)
    case atStart => exact ⟨0, Nat.zero_le _, rfl, Lib.hid (World.ownsRow_lit (base := wo.heap.size) (e := 5) (size := 1) wo #[.int .u8 (15 - (k : Int))] 1 (Nat.le_refl _) (by unfold maxLen; omega) rfl), (Below.refl _ _).alloc (Nat.le_refl _) _⟩
    case round =>
      obtain ⟨t, ht, rfl, hown, hX⟩ := hrel
      have hXs := hX.size
      by_cases hlt : t < k
      · have c1 := (hX.cell (p := (⟨g, 1, none⟩ : Addr).add t) (by rw [add_block]; exact a1)).trans (HA.out t hlt)
        have hx := Hb.out _ (getD_mem (by rw [HL.out]; exact hlt : t < D.length))
        have HT := Lib.hid (tn_take (l := D) (j := t) (by rw [HL.out]; exact hlt))
        generalize D.getD t 0 = x at *
        have hl : ((15 - (k : Int)) :: tn (D.take t)).length = t + 1 := by rw [List.length_cons, tn_length, List.length_take, HL.out]; omega
        have HL2 := Lib.hid hl
        clear hl
        generalize tn (D.take t) = P at *
        have e1 : (⟨g, 1, none⟩ : Addr).add t = ⟨g, 1 + t, none⟩ := by unfold Addr.add; by_cases h : t = 0 <;> simp [h]
        rw [e1] at c1
        clear e1
        go_wp2_with (at_builtin; refine wpList_append_own _ rfl (.tmp 37) (.tmp 40) 23 rfl wo.heap.size 5 i0 _ 1 1 Try.underlying23 hi hz0 hz1 hz2 rfl (by decide) _ ((15 - (k : Int)) :: P).length (bs ((15 - (k : Int)) :: P)) rfl (World.ownsRow.alloc hown.out _) ⟨wr.heap.size, 0, none⟩ 1 1 (bs [255 - x]) rfl rfl (one_cell wr _) (bs_one [255 - x]) (by rw [HL2.out]; unfold maxLen; omega) (by rw [HL2.out]; omega) (by simp; omega) ?_; intro v3 w3 hown3 hgrow3 _)
        have hX3 : Below wo.heap.size wo w3 := (hX.alloc hX.size _).grown hgrow3 (by simp; omega) (fun k hk => (World.ownsRow.lt hown.out k hk).1)
        have hown4 : Hid (Own w3 wo.heap.size v3 ((15 - (k : Int)) :: tn (D.take (t + 1)))) := by
          have := Own.put (l := (15 - (k : Int)) :: P) (m := [255 - x]) hown3 rfl rfl
          have e : ((15 - (k : Int)) :: tn (D.take (t + 1))) = ((15 - (k : Int)) :: P) ++ [255 - x] := by
            rw [List.cons_append]
            congr 1
            exact bs_inj (by rw [bs_app]; exact HT.out)
          rw [e]; exact this
        clear hown3 hgrow3 hown hX c1
        go_wp2
        go_roundw
        case rel => exact ⟨t + 1, by omega, by go_num, hown4, hX3⟩
        case measure => simp [intOf]; omega
      · obtain rfl : t = k := by omega
        go_wp2
        go_ret
        refine ⟨_, rfl, ?_, hB.trans (hX.mono hBs)⟩
        have hf := hown.out
        rw [List.take_of_length_le (by rw [HL.out]; omega)] at hf
        exact hf.base hBs
/-- The document's Int: the same code. -/
theorem refInt_any (n : Int) (h0 : -9223372036854775808 ≤ n) (h1 : n ≤ 9223372036854775807) (w : World) :
    Calls Try.prog 16 #[.int .i64 n] w fun e w' => ∃ v, e = .returned v ∧ Own w' w.heap.size v (intC n) ∧ Below w.heap.size w w' := by
  by_cases h : 0 ≤ n
  · by_cases hz : n = 0
    · subst hz
      exact refInt_zero w
    · have hp : 0 < len256 n.toNat := by
        rcases Nat.eq_zero_or_pos (len256 n.toNat) with h' | h'
        · have := lt_len n.toNat (by omega)
          rw [h'] at this
          omega
        · exact h'
      have := refInt_pos n.toNat (by omega) hp w
      rwa [show ((n.toNat : Nat) : Int) = n by omega] at this
  · have := refInt_neg (-1 - n).toNat (by omega) w
    rwa [show -1 - (((-1 - n).toNat : Nat) : Int) = n by omega] at this
end Go.Proofs.Ytnjapbfnodfgpaa.Rk
