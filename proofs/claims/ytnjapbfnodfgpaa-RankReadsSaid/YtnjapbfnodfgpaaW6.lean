/- The walks of turned and Int. -/
import Derived.Test.YtnjapbfnodfgpaaW5
namespace Go.Proofs.Ytnjapbfnodfgpaa.Rk
open Go Go.RowKit
/-- Each byte with all its bits turned over. -/
def tn (l : List Int) : List Int := l.map (255 - ·)
theorem tn_take {l : List Int} {j : Nat} (h : j < l.length) : bs (tn (l.take (j + 1))) = bs (tn (l.take j)) ++ [.int .u8 (255 - l.getD j 0)] := by
  rw [List.take_succ_eq_append_getElem h]
  unfold bs tn
  rw [List.map_append, List.map_append, List.getD_eq_getElem?_getD, List.getElem?_eq_getElem h]
  rfl
theorem xor255_tab : ∀ n : Fin 256, bits BinOp.xor IntKind.u8 (if IntKind.u8.signed = true then -1 else IntKind.u8.max) (n.val : Int) = 255 - (n.val : Int) := by decide +kernel
theorem xor255 (x : Int) (h : 0 ≤ x ∧ x ≤ 255) : bits BinOp.xor IntKind.u8 (if IntKind.u8.signed = true then -1 else IntKind.u8.max) x = 255 - x := by
  have := xor255_tab ⟨x.toNat, by omega⟩
  simp only at this
  rwa [show ((x.toNat : Nat) : Int) = x by omega] at this
set_option maxHeartbeats 1000000 in
theorem turned_none (ao : Option Addr) (c : Nat) (w : World) :
    Calls Try.prog 29 #[.slice ao 0 c] w fun e w' => ∃ g cc, e = .returned (.slice (some ⟨g, 0, none⟩) 0 cc) ∧ w'.ownsRow w.heap.size 5 1 (.slice (some ⟨g, 0, none⟩) 0 cc) 0 [] ∧ Below w.heap.size w w' := by
  obtain ⟨i0, hi, hz0, hz1, hz2⟩ := info_parts info5
  go_enter Try.func29, Try.ntmps29
  go_wp2_with (at_make; refine wpList_make_own _ rfl (.const (.int .i64 0)) (.tmp 7) 23 rfl w.heap.size 5 i0 (.int .u8 0) 1 Try.underlying23 hi hz0 hz1 .i64 .i64 _ 0 rfl rfl rfl (by rw [hz2]; omega) (by unfold maxLen; omega) (Nat.le_refl _) ?_; intro w1 hown hgrow)
  have hB : Below w.heap.size w w1 := (Below.refl _ _).grown hgrow (Nat.le_refl _) (fun k hk => by cases hk)
  clear hgrow
  refine wp_loop_rounds 1 ?_
  rw [rounds_succ]
  go_wp2
  go_ret
  exact ⟨_, _, rfl, hown, hB⟩
set_option maxHeartbeats 1000000 in
theorem turned_some (a : Addr) (n c : Nat) (l : List Int) (w : World) (hn : n ≤ 140737488351232) (hl : l.length = n) (ha0 : a.block < w.heap.size) (hca : ∀ k, k < n → w.cell? (a.add k) = some (.int .u8 (l.getD k 0))) (hb : ∀ x ∈ l, 0 ≤ x ∧ x ≤ 255) :
    Calls Try.prog 29 #[.slice (some a) n c] w fun e w' => ∃ g cc, e = .returned (.slice (some ⟨g, 0, none⟩) n cc) ∧ w'.ownsRow w.heap.size 5 1 (.slice (some ⟨g, 0, none⟩) n cc) n (bs (tn l)) ∧ Below w.heap.size w w' := by
  obtain ⟨i0, hi, hz0, hz1, hz2⟩ := info_parts info5
  have HA := Lib.hid hca
  have HL := Lib.hid hl
  have Hb := Lib.hid hb
  clear hca hl hb
  go_enter Try.func29, Try.ntmps29
  go_wp2_with (at_make; refine wpList_make_own _ rfl (.const (.int .i64 0)) (.tmp 7) 23 rfl w.heap.size 5 i0 (.int .u8 0) 1 Try.underlying23 hi hz0 hz1 .i64 .i64 _ n rfl rfl rfl (by rw [hz2]; omega) (by unfold maxLen; omega) (Nat.le_refl _) ?_; intro w1 hown hgrow)
  have hB1 : Below w.heap.size w w1 := (Below.refl _ _).grown hgrow (Nat.le_refl _) (fun k hk => by cases hk)
  have Hown := Lib.hid hown
  clear hgrow hown
  go_wp2
  go_loopw [3, 11] (fun v i wr => ∃ j : Nat, j ≤ n ∧ i = .int .i64 j ∧ v = .slice (some ⟨w.heap.size, 0, none⟩) j n ∧ Hid (wr.ownsRow w.heap.size 5 1 (.slice (some ⟨w.heap.size, 0, none⟩) j n) j (bs (tn (l.take j)))) ∧ Below w.heap.size w wr) (fun _ i _ => n - (intOf i).toNat)
  case atStart => exact ⟨0, Nat.zero_le _, rfl, rfl, Hown, hB1⟩
  case round =>
    obtain ⟨j, hj, rfl, rfl, hown, hB⟩ := hrel
    by_cases hlt : j < n
    · have c1 := (hB.cell (p := a.add j) (by rw [add_block]; exact ha0)).trans (HA.out j hlt)
      have hjl : j < l.length := by rw [HL.out]; exact hlt
      have hx := Hb.out (l.getD j 0) (by rw [List.getD_eq_getElem?_getD, List.getElem?_eq_getElem hjl]; exact List.getElem_mem _)
      have Hn := Lib.hid (tn_take hjl)
      clear hjl
      generalize l.getD j 0 = x at *
      have hbx := Lib.hid (xor255 x hx)
      have hBs := hB.size
      go_wp2_with (at_builtin; rw [hbx.out]; refine wpList_append_fits _ rfl (.tmp 15) (.tmp 18) 23 rfl w.heap.size 5 i0 1 Try.underlying23 hi hz1 w.heap.size j n (bs (tn (l.take j))) rfl (hown.out.alloc _) ⟨wr.heap.size, 0, none⟩ 1 1 [.int .u8 (255 - x)] rfl rfl (one_cell wr _) (bs_one [255 - x]) (by omega) ?_; intro w2 hown2 hgrow2)
      have hB2 : Below w.heap.size w w2 := (hB.alloc hB.size _).grown hgrow2 (by simp; omega) (fun k hk => by cases hk; exact Nat.le_refl _)
      clear hgrow2
      rw [← Hn.out] at hown2
      have Hown2 := Lib.hid hown2
      clear hown2
      go_wp2
      go_roundw
      case rel => exact ⟨j + 1, by omega, by go_num, rfl, Hown2, hB2⟩
      case measure => simp [intOf]; omega
    · obtain rfl : j = n := by omega
      go_wp2
      go_ret
      exact ⟨_, _, rfl, by rw [List.take_of_length_le (by rw [HL.out]; omega)] at hown; exact hown.out, hB⟩
end Go.Proofs.Ytnjapbfnodfgpaa.Rk
