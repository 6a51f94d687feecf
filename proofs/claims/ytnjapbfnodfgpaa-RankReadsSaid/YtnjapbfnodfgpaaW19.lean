/- The walk of ReadText. -/
import Derived.Test.YtnjapbfnodfgpaaW17
namespace Go.Proofs.Ytnjapbfnodfgpaa.Rk
open Go Go.RowKit
/-- What ReadText makes of what is left: whether a 00 led, the bytes so far, how many it has read. -/
def rt (most : Nat) : Bool → List Int → Nat → List Int → Option (List Int × Nat)
  | _, _, _, [] => none
  | false, t, i, x :: l => if x = 0 then rt most true t (i + 1) l else if most < t.length + 1 then none else rt most false (t ++ [x]) (i + 1) l
  | true, t, i, x :: l => if x = 255 then (if most < t.length + 1 then none else rt most false (t ++ [0]) (i + 1) l) else if x = 0 then some (t, i + 1) else none
theorem rt_mark {most j : Nat} {t l : List Int} (h : j < l.length) (hx : l.getD j 0 = 0) : rt most false t j (l.drop j) = rt most true t (j + 1) (l.drop (j + 1)) := by
  rw [drop_at h, hx, rt, if_pos rfl]
theorem rt_over {most j : Nat} {t l : List Int} (h : j < l.length) (hx : ¬ l.getD j 0 = 0) (hm : most < t.length + 1) : rt most false t j (l.drop j) = none := by
  rw [drop_at h, rt, if_neg hx, if_pos hm]
theorem rt_byte {most j : Nat} {t l : List Int} (h : j < l.length) (hx : ¬ l.getD j 0 = 0) (hm : ¬ most < t.length + 1) : rt most false t j (l.drop j) = rt most false (t ++ [l.getD j 0]) (j + 1) (l.drop (j + 1)) := by
  rw [drop_at h, rt, if_neg hx, if_neg hm]
theorem rt_over2 {most j : Nat} {t l : List Int} (h : j < l.length) (hx : l.getD j 0 = 255) (hm : most < t.length + 1) : rt most true t j (l.drop j) = none := by
  rw [drop_at h, hx, rt, if_pos rfl, if_pos hm]
theorem rt_plain {most j : Nat} {t l : List Int} (h : j < l.length) (hx : l.getD j 0 = 255) (hm : ¬ most < t.length + 1) : rt most true t j (l.drop j) = rt most false (t ++ [0]) (j + 1) (l.drop (j + 1)) := by
  rw [drop_at h, hx, rt, if_pos rfl, if_neg hm]
theorem rt_end {most j : Nat} {t l : List Int} (h : j < l.length) (hx : l.getD j 0 = 0) : rt most true t j (l.drop j) = some (t, j + 1) := by
  rw [drop_at h, hx, rt, if_neg (by decide), if_pos rfl]
theorem rt_bad {most j : Nat} {t l : List Int} (h : j < l.length) (hx : ¬ l.getD j 0 = 255) (hy : ¬ l.getD j 0 = 0) : rt most true t j (l.drop j) = none := by
  rw [drop_at h, rt, if_neg hx, if_neg hy]
theorem rt_nil {most : Nat} {m : Bool} {t l : List Int} {j : Nat} (h : l.length ≤ j) : rt most m t j (l.drop j) = none := by
  rw [List.drop_of_length_le h, rt]
/-- What ReadText answers: the bytes, how long their code is; or nothing. -/
def RtPost (r : Option (List Int × Nat)) (w : World) (e : Ending) (w' : World) : Prop :=
  Below w.heap.size w w' ∧ match r with
    | none => e = .returned (.tuple #[.slice none 0 0, .int .i64 0, .int .i64 3])
    | some (t, i) => ∃ ao c, e = .returned (.tuple #[.slice ao t.length c, .int .i64 i, .int .i64 0]) ∧ Own w' w.heap.size (.slice ao t.length c) t
theorem RtPost.none_mk {w w' : World} {e : Ending} (h : Below w.heap.size w w') (he : e = .returned (.tuple #[.slice none 0 0, .int .i64 0, .int .i64 3])) {r : Option (List Int × Nat)} (hr : r = none) : RtPost r w e w' := by
  subst hr; exact ⟨h, he⟩
set_option maxHeartbeats 4000000 in
theorem rt_some (a : Addr) (n c most : Nat) (l : List Int) (w : World) (hm : most ≤ 65536) (hn : n ≤ maxLen) (hl : l.length = n) (ha0 : a.block < w.heap.size)
    (hca : ∀ k, k < n → w.cell? (a.add k) = some (.int .u8 (l.getD k 0))) (hb : ∀ x ∈ l, 0 ≤ x ∧ x ≤ 255) :
    Calls Try.prog 22 #[.slice (some a) n c, .int .i64 most] w (RtPost (rt most false [] 0 l) w) := by
  obtain ⟨i0, hi, hz0, hz1, hz2⟩ := info_parts info5
  unfold maxLen at hn
  have HA := Lib.hid hca
  have HL := Lib.hid hl
  have Hb := Lib.hid hb
  clear hca hl hb
  go_enter Try.func22, Try.ntmps22
  go_wp2
  go_loopw [7, 8, 19] (fun v mk i wr => ∃ (j : Nat) (m : Bool) (t : List Int) (ao : Option Addr) (cc : Nat), j ≤ n ∧ i = .int .i64 j ∧ mk = .bool m ∧ v = .slice ao t.length cc ∧ Hid (Own wr w.heap.size (.slice ao t.length cc) t) ∧ Hid (rt most false [] 0 l = rt most m t j (l.drop j)) ∧ t.length ≤ most ∧ Below w.heap.size w wr) (fun _ _ i _ => n - (intOf i).toNat)
  case atStart => exact ⟨0, false, [], none, 0, Nat.zero_le _, rfl, rfl, rfl, Lib.hid (World.ownsRow_nil _ _ _ _), Lib.hid rfl, Nat.zero_le _, Below.refl _ _⟩
  case round =>
    obtain ⟨j, m, t, ao, cc, hj, rfl, rfl, rfl, hown, hr, ht, hB⟩ := hrel
    have hBs := hB.size
    by_cases hlt : j < n
    · have c1 := (hB.cell (p := a.add j) (by rw [add_block]; exact ha0)).trans (HA.out j hlt)
      have hjl : j < l.length := by rw [HL.out]; exact hlt
      have HJ := Lib.hid hjl
      have hx0 := Hb.out _ (getD_mem hjl)
      clear hjl
      cases m
      · by_cases hx : l.getD j 0 = 0
        · have hr2 := Lib.hid (hr.out.trans (rt_mark HJ.out hx))
          rw [hx] at c1
          clear hx hr
          go_wp2
          go_roundw
          case rel => exact ⟨j + 1, true, t, ao, cc, by omega, by go_num, rfl, rfl, hown, hr2, ht, hB⟩
          case measure => simp [intOf]; omega
        · have hx1 : (l.getD j 0 == 0) = false := by rw [beq_eq_false_iff_ne]; exact hx
          by_cases hmm : most < t.length + 1
          · have hr2 := Lib.hid (hr.out.trans (rt_over HJ.out hx hmm))
            clear hx hr
            generalize l.getD j 0 = x at *
            go_wp2_with (at_builtin; refine wpList_append_lies _ rfl (.tmp 34) (.tmp 36) 23 rfl w.heap.size 5 i0 _ 1 1 Try.underlying23 hi hz0 hz1 hz2 rfl (by decide) _ t.length (bs t) rfl (World.ownsRow.alloc hown.out _) ⟨wr.heap.size, 0, none⟩ 1 1 (bs [x]) rfl rfl (one_cell wr x) (bs_one [x]) (by decide) (by unfold maxLen; omega) (by omega) (by simp; omega) (wr.heap.size + 1) (by simp) ?_; intro g3 c3 w3 hown3 hgrow3 _ _; have hB3 : Below w.heap.size w w3 := (hB.alloc hB.size _).grown hgrow3 (by simp; omega) (fun k hk => (World.ownsRow.lt hown.out k hk).1))
            go_wp2
            go_ret3
            exact RtPost.none_mk hB3 rfl hr2.out
          · have hr2 := Lib.hid (hr.out.trans (rt_byte HJ.out hx hmm))
            clear hx hr
            generalize l.getD j 0 = x at *
            go_wp2_with (at_builtin; refine wpList_append_lies _ rfl (.tmp 34) (.tmp 36) 23 rfl w.heap.size 5 i0 _ 1 1 Try.underlying23 hi hz0 hz1 hz2 rfl (by decide) _ t.length (bs t) rfl (World.ownsRow.alloc hown.out _) ⟨wr.heap.size, 0, none⟩ 1 1 (bs [x]) rfl rfl (one_cell wr x) (bs_one [x]) (by decide) (by unfold maxLen; omega) (by omega) (by simp; omega) (wr.heap.size + 1) (by simp) ?_; intro g3 c3 w3 hown3 hgrow3 _ _; have hB3 : Below w.heap.size w w3 := (hB.alloc hB.size _).grown hgrow3 (by simp; omega) (fun k hk => (World.ownsRow.lt hown.out k hk).1))
            have hown4 := Lib.hid (Own.put (l := t) (m := [x]) hown3 rfl rfl)
            clear hown3 hgrow3 hown
            go_wp2
            go_roundw
            case rel => exact ⟨j + 1, false, t ++ [x], some ⟨g3, 0, none⟩, c3, by omega, by go_num, rfl, by simp, by rw [List.length_append]; exact hown4, hr2, by simp; omega, hB3⟩
            case measure => simp [intOf]; omega
      · by_cases hx : l.getD j 0 = 255
        · rw [hx] at c1
          by_cases hmm : most < t.length + 1
          · have hr2 := Lib.hid (hr.out.trans (rt_over2 HJ.out hx hmm))
            clear hx hr
            go_wp2_with (at_builtin; refine wpList_append_lies _ rfl (.tmp 41) (.tmp 42) 23 rfl w.heap.size 5 i0 _ 1 1 Try.underlying23 hi hz0 hz1 hz2 rfl (by decide) _ t.length (bs t) rfl (World.ownsRow.alloc hown.out _) ⟨wr.heap.size, 0, none⟩ 1 1 (bs [0]) rfl rfl (one_cell wr 0) (bs_one [0]) (by decide) (by unfold maxLen; omega) (by omega) (by simp; omega) (wr.heap.size + 1) (by simp) ?_; intro g3 c3 w3 hown3 hgrow3 _ _; have hB3 : Below w.heap.size w w3 := (hB.alloc hB.size _).grown hgrow3 (by simp; omega) (fun k hk => (World.ownsRow.lt hown.out k hk).1))
            go_wp2
            go_ret3
            exact RtPost.none_mk hB3 rfl hr2.out
          · have hr2 := Lib.hid (hr.out.trans (rt_plain HJ.out hx hmm))
            clear hx hr
            go_wp2_with (at_builtin; refine wpList_append_lies _ rfl (.tmp 41) (.tmp 42) 23 rfl w.heap.size 5 i0 _ 1 1 Try.underlying23 hi hz0 hz1 hz2 rfl (by decide) _ t.length (bs t) rfl (World.ownsRow.alloc hown.out _) ⟨wr.heap.size, 0, none⟩ 1 1 (bs [0]) rfl rfl (one_cell wr 0) (bs_one [0]) (by decide) (by unfold maxLen; omega) (by omega) (by simp; omega) (wr.heap.size + 1) (by simp) ?_; intro g3 c3 w3 hown3 hgrow3 _ _; have hB3 : Below w.heap.size w w3 := (hB.alloc hB.size _).grown hgrow3 (by simp; omega) (fun k hk => (World.ownsRow.lt hown.out k hk).1))
            have hown4 := Lib.hid (Own.put (l := t) (m := [0]) hown3 rfl rfl)
            clear hown3 hgrow3 hown
            go_wp2
            go_roundw
            case rel => exact ⟨j + 1, false, t ++ [0], some ⟨g3, 0, none⟩, c3, by omega, by go_num, rfl, by simp, by rw [List.length_append]; exact hown4, hr2, by simp; omega, hB3⟩
            case measure => simp [intOf]; omega
        · have hx1 : (l.getD j 0 == 255) = false := by rw [beq_eq_false_iff_ne]; exact hx
          by_cases hy : l.getD j 0 = 0
          · have hr2 := Lib.hid (hr.out.trans (rt_end HJ.out hy))
            rw [hy] at c1
            clear hx hr hx1 hy
            go_wp2
            go_ret3
            refine ⟨hB, ?_⟩
            rw [hr2.out]
            exact ⟨ao, cc, rfl, hown.out⟩
          · have hy1 : (l.getD j 0 == 0) = false := by rw [beq_eq_false_iff_ne]; exact hy
            have hr2 := Lib.hid (hr.out.trans (rt_bad HJ.out hx hy))
            clear hx hr hy
            generalize l.getD j 0 = x at *
            go_wp2
            go_ret3
            exact RtPost.none_mk hB rfl hr2.out
    · have hr2 := Lib.hid (hr.out.trans (rt_nil (by rw [HL.out]; omega)))
      clear hr
      go_wp2
      go_ret3
      exact RtPost.none_mk hB rfl hr2.out
set_option maxHeartbeats 1000000 in
theorem rt_none (ao : Option Addr) (c most : Nat) (w : World) (hm : most ≤ 65536) :
    Calls Try.prog 22 #[.slice ao 0 c, .int .i64 most] w (RtPost none w) := by
  go_enter Try.func22, Try.ntmps22
  go_wp2
  refine wp_loop_rounds 1 ?_
  rw [rounds_succ]
  go_wp2
  go_ret3
  exact RtPost.none_mk (Below.refl _ _) rfl rfl
/-- ReadText, of a limit that may be. -/
theorem rt_any (ao : Option Addr) (n c most : Nat) (l : List Int) (w : World) (hm : most ≤ 65536) (hn : n ≤ maxLen) (hl : l.length = n) (ha : Rd w ao l) (hb : ∀ x ∈ l, 0 ≤ x ∧ x ≤ 255) :
    Calls Try.prog 22 #[.slice ao n c, .int .i64 most] w (RtPost (rt most false [] 0 l) w) := by
  subst hl
  by_cases h : l = []
  · subst h
    exact rt_none ao c most w hm
  · obtain ⟨a, rfl, h1, h2⟩ := ha.here h
    exact rt_some a _ c most l w hm hn rfl h1 h2 hb
end Go.Proofs.Ytnjapbfnodfgpaa.Rk
