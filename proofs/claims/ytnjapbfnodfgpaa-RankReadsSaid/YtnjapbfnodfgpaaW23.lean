/- The walk of the document's Uint. -/
import Derived.Test.YtnjapbfnodfgpaaW22
namespace Go.Proofs.Ytnjapbfnodfgpaa.Rk
open Go Go.RowKit
/-- The k low bytes, the lowest first. -/
def lo : Nat → Nat → List Int
  | 0, _ => []
  | k + 1, n => lo k n ++ [((n / 256 ^ k % 256 : Nat) : Int)]
theorem lo_length : ∀ k n, (lo k n).length = k
  | 0, _ => rfl
  | k + 1, n => by simp [lo, lo_length k]
theorem lo_get : ∀ (k n i : Nat), i < k → (lo k n).getD i 0 = ((n / 256 ^ i % 256 : Nat) : Int)
  | 0, n, i, h => by omega
  | k + 1, n, i, h => by
    unfold lo
    by_cases e : i = k
    · subst e
      simp [List.getD_eq_getElem?_getD, lo_length]
    · rw [List.getD_eq_getElem?_getD, List.getElem?_append_left (by rw [lo_length]; omega), ← List.getD_eq_getElem?_getD, lo_get k n i (by omega)]
theorem more_iff (n j : Nat) (hn : n < 18446744073709551616) (hj : j ≤ len256 n) : 0 < n / 256 ^ j ↔ j < len256 n := by
  have h3 : 0 < 256 ^ j := Nat.pow_pos (by decide)
  constructor
  · intro h
    have h4 : 256 ^ j ≤ n := by
      have := (Nat.le_div_iff_mul_le h3).1 h
      omega
    rcases Nat.lt_or_ge j (len256 n) with h5 | h5
    · exact h5
    · have e : j = len256 n := by omega
      have := lt_len n hn
      rw [← e] at this
      omega
  · intro h
    refine (Nat.le_div_iff_mul_le h3).2 ?_
    rcases Nat.lt_or_ge n (256 ^ j) with h5 | h5
    · have := len_le_of n j hn h5
      omega
    · omega
theorem be_take {k n t : Nat} (h : t < k) : (be k n).take (t + 1) = (be k n).take t ++ [((n / 256 ^ (k - 1 - t) % 256 : Nat) : Int)] := by
  have hl : t < (be k n).length := by rw [be_length]; exact h
  rw [List.take_succ_eq_append_getElem hl, ← be_get k n t h, List.getD_eq_getElem?_getD, List.getElem?_eq_getElem hl]
  rfl
set_option maxHeartbeats 3000000 in
theorem refUint_any (n : Nat) (hn : n < 18446744073709551616) (w : World) :
    Calls Try.prog 15 #[.int .u64 n] w fun e w' => ∃ v, e = .returned v ∧ Own w' w.heap.size v (uintC n) ∧ Below w.heap.size w w' := by
  obtain ⟨i0, hi, hz0, hz1, hz2⟩ := info_parts info5
  have hk8 := len256_le n hn
  have hmore := fun j h => more_iff n j hn h
  obtain ⟨K, hK⟩ : ∃ K, K = len256 n := ⟨_, rfl⟩
  have HK := Lib.hid hK
  rw [← hK] at hk8 hmore
  have HM := Lib.hid hmore
  clear hmore hK
  go_enter Try.func15, Try.ntmps15
  go_wp2
  go_loopw [0, 3] (fun u v wr => ∃ j : Nat, j ≤ K ∧ u = .int .u64 ((n / 256 ^ j : Nat) : Int) ∧ Hid (∃ ao c, v = .slice ao j c ∧ wr.ownsRow w.heap.size 5 1 (.slice ao j c) j (bs (lo j n))) ∧ Below w.heap.size w wr) (fun u _ _ => (intOf u).toNat)
  case atStart => exact ⟨0, Nat.zero_le _, by simp, ⟨none, 0, rfl, World.ownsRow_nil _ _ _ _⟩, Below.refl _ _⟩
  case round =>
    obtain ⟨j, hj, rfl, hv, hB⟩ := hrel
    obtain ⟨ao, cc, rfl, hown⟩ := hv.out
    have hBs := hB.size
    clear hv
    have HO := Lib.hid hown
    clear hown
    by_cases hlt : j < K
    · have hpos := (HM.out j hj).2 hlt
      have hdd : n / 256 ^ (j + 1) = n / 256 ^ j / 256 := by rw [Nat.pow_succ, Nat.div_div_eq_div_mul]
      have HD := Lib.hid hdd
      have hm : n / 256 ^ j < 18446744073709551616 := Nat.lt_of_le_of_lt (Nat.div_le_self _ _) hn
      have HS : Hid (lo (j + 1) n = lo j n ++ [((n / 256 ^ j % 256 : Nat) : Int)]) := rfl
      clear hdd
      generalize n / 256 ^ j = m at *
      have hmod : ((m % 256 : Nat) : Int) = (m : Int) % 256 := by omega
      have HS2 : Hid (lo (j + 1) n = lo j n ++ [(m : Int) % 256]) := by rw [← hmod]; exact HS
      have hll := Lib.hid (lo_length j n)
      clear hmod HS
      generalize lo j n = L at *
      go_wp2_with (at_builtin; refine wpList_append_lies _ rfl (.tmp 8) (.tmp 12) 23 rfl w.heap.size 5 i0 _ 1 1 Try.underlying23 hi hz0 hz1 hz2 rfl (by decide) _ j (bs L) rfl (HO.out.alloc _) ⟨wr.heap.size, 0, none⟩ 1 1 (bs [(m : Int) % 256]) rfl rfl (one_cell wr _) (bs_one _) (by decide) (by unfold maxLen; omega) (by omega) (by simp; omega) (wr.heap.size + 1) (by simp) ?_; intro g3 c3 w3 hown3 hgrow3 _ _)
      have hB3 : Below w.heap.size w w3 := (hB.alloc hB.size _).grown hgrow3 (by simp; omega) (fun k hk => (World.ownsRow.lt HO.out k hk).1)
      have hown4 : w3.ownsRow w.heap.size 5 1 (.slice (some ⟨g3, 0, none⟩) (j + 1) c3) (j + 1) (bs (lo (j + 1) n)) := by rw [HS2.out, bs_app]; exact hown3
      have HO4 := Lib.hid hown4
      clear hown4 hown3 hgrow3 HO hB HS2
      go_wp2
      go_roundw
      case rel => exact ⟨j + 1, by omega, by rw [HD.out]; simp, ⟨_, _, rfl, HO4.out⟩, hB3⟩
      case measure => simp [intOf]; omega
    · obtain rfl : j = K := by omega
      have h0 : n / 256 ^ j = 0 := by
        rcases Nat.eq_zero_or_pos (n / 256 ^ j) with h | h
        · exact h
        · exact absurd ((HM.out j (Nat.le_refl _)).1 h) (Nat.lt_irrefl _)
      have h00 : ((n / 256 ^ j : Nat) : Int) = 0 := by rw [h0]; rfl
      rw [h00]
      have hrd0 : Rd wr ao (lo j n) := by
        have := (Own.rd (v := .slice ao j cc) (l := lo j n) (w := wr) (B := w.heap.size) (by unfold Own; rw [lo_length]; exact HO.out))
        obtain ⟨ao', c', h1, h2⟩ := this
        simp only [Value.slice.injEq] at h1
        rw [h1.1]; exact h2
      clear h0 h00 HM
      by_cases hj0 : j = 0
      · subst hj0
        go_wp2
        refine wp_loop_rounds 1 ?_
        rw [rounds_succ]
        go_wp2
        go_ret
        refine ⟨_, rfl, ?_, hB.alloc hB.size _⟩
        have e : uintC n = [0] := by unfold uintC dig; rw [← HK.out]; rfl
        rw [e]
        exact World.ownsRow_lit (base := w.heap.size) (e := 5) (size := 1) wr #[.int .u8 0] 1 hB.size (by unfold maxLen; omega) rfl
      · obtain ⟨a, rfl, a1, a2⟩ := hrd0.here (fun e => hj0 (by have := lo_length j n; rw [e] at this; exact this.symm))
        rw [lo_length] at a2
        have HA := Lib.hid a2
        clear a2 hrd0
        generalize wr = wo at *
        go_wp2
        go_loopw [4, 5] (fun v i wq => ∃ t : Nat, t ≤ j ∧ i = .int .i64 ((j : Int) - 1 - t) ∧ Hid (Own wq wo.heap.size v ((j : Int) :: (be j n).take t)) ∧ Below wo.heap.size wo wq) (fun _ i _ => (intOf i + 1).toNat)
        case atStart => exact ⟨0, Nat.zero_le _, by simp, Lib.hid (World.ownsRow_lit (base := wo.heap.size) (e := 5) (size := 1) wo #[.int .u8 (j : Int)] 1 (Nat.le_refl _) (by unfold maxLen; omega) rfl), (Below.refl _ _).alloc (Nat.le_refl _) _⟩
        case round =>
          obtain ⟨t, ht, rfl, hown, hX⟩ := hrel
          have hXs := hX.size
          by_cases hlt2 : t < j
          · have c1 := (hX.cell (p := a.add (j - 1 - t)) (by rw [add_block]; exact a1)).trans (HA.out (j - 1 - t) (by omega))
            rw [lo_get j n (j - 1 - t) (by omega)] at c1
            have HT := Lib.hid (be_take (n := n) hlt2)
            generalize ((n / 256 ^ (j - 1 - t) % 256 : Nat) : Int) = x at *
            have k1 : (0 : Int) ≤ (j : Int) - 1 - t := by omega
            have hl : ((j : Int) :: (be j n).take t).length = t + 1 := by rw [List.length_cons, List.length_take, be_length]; omega
            have HL := Lib.hid hl
            clear hl
            generalize hP : (be j n).take t = P at *
            clear hP
            go_wp2_with (at_builtin; refine wpList_append_own _ rfl (.tmp 27) (.tmp 32) 23 rfl wo.heap.size 5 i0 _ 1 1 Try.underlying23 hi hz0 hz1 hz2 rfl (by decide) _ ((j : Int) :: P).length (bs ((j : Int) :: P)) rfl (World.ownsRow.alloc hown.out _) ⟨wr.heap.size, 0, none⟩ 1 1 (bs [x]) rfl rfl (one_cell wr x) (bs_one [x]) (by rw [HL.out]; unfold maxLen; omega) (by rw [HL.out]; omega) (by simp; omega) ?_; intro v3 w3 hown3 hgrow3 _)
            have hX3 : Below wo.heap.size wo w3 := (hX.alloc hX.size _).grown hgrow3 (by simp; omega) (fun k hk => (World.ownsRow.lt hown.out k hk).1)
            have hown4 : Hid (Own w3 wo.heap.size v3 ((j : Int) :: (be j n).take (t + 1))) := by rw [HT.out]; exact Own.put (l := (j : Int) :: P) (m := [x]) hown3 rfl rfl
            clear hown3 hgrow3 hown hX c1
            go_wp2
            go_roundw
            case rel => exact ⟨t + 1, by omega, by go_num, hown4, hX3⟩
            case measure => simp [intOf]; omega
          · obtain rfl : t = j := by omega
            have k2 : (t : Int) - 1 - t = -1 := by omega
            go_wp2
            go_ret
            refine ⟨_, rfl, ?_, hB.trans (hX.mono hBs)⟩
            have hf := hown.out
            rw [List.take_of_length_le (by rw [be_length]; omega)] at hf
            unfold uintC dig
            rw [← HK.out]
            exact hf.base hBs
end Go.Proofs.Ytnjapbfnodfgpaa.Rk
