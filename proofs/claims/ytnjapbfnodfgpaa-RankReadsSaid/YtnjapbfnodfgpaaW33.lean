/- The walk of the document's ReadText. -/
import Derived.Test.YtnjapbfnodfgpaaW32
namespace Go.Proofs.Ytnjapbfnodfgpaa.Rk
open Go Go.RowKit
theorem drop2 {l : List Int} {i : Nat} (h : i + 1 < l.length) : l.drop i = l.getD i 0 :: l.getD (i + 1) 0 :: l.drop (i + 2) := by
  rw [drop_at (by omega : i < l.length), drop_at h]
theorem dtS_short {t l : List Int} {i : Nat} (h : ¬ i + 1 < l.length) : dtS t i (l.drop i) = none := by
  have hl : (l.drop i).length ≤ 1 := by rw [List.length_drop]; omega
  cases hs : l.drop i with
  | nil => rw [dtS]
  | cons x s =>
    cases s with
    | nil => rw [dtS]
    | cons y s => rw [hs] at hl; simp at hl
theorem dtS_end {t l : List Int} {i : Nat} (h : i + 1 < l.length) (hx : l.getD i 0 = 0) (hy : l.getD (i + 1) 0 = 0) : dtS t i (l.drop i) = some (t, i + 2) := by
  rw [drop2 h, dtS, if_pos ⟨hx, hy⟩]
theorem dtS_mark {t l : List Int} {i : Nat} (h : i + 1 < l.length) (hx : l.getD i 0 = 0) (hy : ¬ l.getD (i + 1) 0 = 0) : dtS t i (l.drop i) = dtS (t ++ [0]) (i + 2) (l.drop (i + 2)) := by
  rw [drop2 h, dtS, if_neg (fun h => hy h.2), if_pos hx, hx]
theorem dtS_byte {t l : List Int} {i : Nat} (h : i + 1 < l.length) (hx : ¬ l.getD i 0 = 0) : dtS t i (l.drop i) = dtS (t ++ [l.getD i 0]) (i + 1) (l.drop (i + 1)) := by
  rw [drop2 h, dtS, if_neg (fun h => hx h.1), if_neg hx, ← drop_at h]
set_option maxHeartbeats 6000000 in
theorem dt_some (a : Addr) (n c most : Nat) (l : List Int) (w : World) (hm : most ≤ 65536) (hnc : n ≤ c) (hcm : c ≤ maxLen) (hn : n ≤ 140737488351232) (hl : l.length = n) (ha0 : a.block < w.heap.size) (hR : Rd w (some a) l)
    (hca : ∀ k, k < n → w.cell? (a.add k) = some (.int .u8 (l.getD k 0))) :
    Calls Try.prog 25 #[.slice (some a) n c, .int .i64 most] w (RtPost (rt most false [] 0 l) w) := by
  obtain ⟨i0, hi, hz0, hz1, hz2⟩ := info_parts info5
  obtain ⟨d1, d2, d3, d4⟩ := dt_eq most l
  have D1 := Lib.hid d1
  have D2 := Lib.hid d2
  have D3 := Lib.hid d3
  have D4 := Lib.hid d4
  have HA := Lib.hid hca
  have HL := Lib.hid hl
  have HR := Lib.hid hR
  have HC := Lib.hid hcm
  clear hca hl hR hcm d1 d2 d3 d4
  generalize hr : rt most false [] 0 l = r at *
  clear hr
  have hm1 : decide ((most : Int) < 0) = false := decide_eq_false (by omega)
  have hm2 : decide ((65536 : Int) < (most : Int)) = false := decide_eq_false (by omega)
  go_enter Try.func25, Try.ntmps25
  go_wp2
  go_loopw [7, 8] (fun v i wr => ∃ (j : Nat) (t : List Int) (ao : Option Addr) (cc : Nat), j ≤ n ∧ i = .int .i64 j ∧ v = .slice ao t.length cc ∧ Hid (Own wr w.heap.size (.slice ao t.length cc) t) ∧ Hid (dtS [] 0 l = dtS t j (l.drop j)) ∧ t.length ≤ j ∧ Below w.heap.size w wr) (fun _ i _ => n - (intOf i).toNat)
  case atStart => exact ⟨0, [], none, 0, Nat.zero_le _, rfl, rfl, Lib.hid (World.ownsRow_nil _ _ _ _), Lib.hid rfl, Nat.zero_le _, Below.refl _ _⟩
  case round =>
    obtain ⟨j, t, ao, cc, hj, rfl, rfl, hown, hd, ht, hB⟩ := hrel
    have hBs := hB.size
    by_cases hlt : j + 1 < n
    · have c1 := (hB.cell (p := a.add j) (by rw [add_block]; exact ha0)).trans (HA.out j (by omega))
      have c2 := (hB.cell (p := a.add (j + 1)) (by rw [add_block]; exact ha0)).trans (HA.out (j + 1) hlt)
      have ea : a.add (j + 1) = ⟨a.block, a.off + (j + 1), none⟩ := by unfold Addr.add; simp
      rw [ea] at c2
      clear ea
      have HJ : Hid (j + 1 < l.length) := Lib.hid (by rw [HL.out]; exact hlt)
      by_cases hx : l.getD j 0 = 0
      · rw [hx] at c1
        by_cases hy : l.getD (j + 1) 0 = 0
        · rw [hy] at c2
          have hd2 := hd.out.trans (dtS_end HJ.out hx hy)
          clear hx hy hd HA HJ
          by_cases hmm : most < t.length
          · have Hr := Lib.hid (D2.out _ _ hd2 hmm)
            clear hd2
            go_wp2_with fail
            go_ret3
            exact RtPost.none_mk hB rfl Hr.out
          · have HD := Lib.hid hd2
            clear hd2
            have hrt := own_slice_rd hown.out
            have G := Lib.hid (gives_some (textC_pos_len t) (refText_any ao t.length cc t wr (by omega) rfl hrt))
            have htl := textC_len t
            have HF := Lib.hid (fun (w : World) (g cu : Nat) (hA : Rd w (some a) l) (hB : Rd w (some ⟨g, 0, none⟩) (textC t)) =>
              front_any (some a) (some ⟨g, 0, none⟩) n c (textC t).length cu l (textC t) w hnc HC.out HL.out rfl (le_max (show (textC t).length ≤ 200000 by omega) (by decide)) hA hB)
            have E3 := Lib.hid (D3.out _ _ HD.out (by omega))
            have E4 := Lib.hid (D4.out _ _ HD.out (by omega))
            clear htl hrt D1 D2 D3 D4 HD
            generalize textC t = U at *
            go_wp2_with fail
            refine G.out.mono ?_
            rintro e w2 ⟨g, cu, rfl, ⟨_, ru⟩, hB2⟩
            have hb2 := hB.trans (hB2.mono hBs)
            have H32 := Lib.hid (HF.out w2 g cu (HR.out.on hb2 (Nat.le_refl _)) ru)
            have ho2 := Lib.hid (hown.out.on hB2)
            clear hB2 ru HF G hown
            cases hf : fr l U with
            | false =>
              rw [hf] at H32
              have Hr := Lib.hid (E3.out hf)
              clear hf
              go_wp2_with fail
              refine H32.out.mono ?_
              rintro e w3 ⟨rfl, hB3⟩
              go_wp2_with fail
              go_ret3
              exact RtPost.none_mk (hb2.trans (hB3.mono hb2.size)) rfl Hr.out
            | true =>
              rw [hf] at H32
              have Hr := Lib.hid (E4.out hf)
              clear hf
              go_wp2_with fail
              refine H32.out.mono ?_
              rintro e w3 ⟨rfl, hB3⟩
              have ho3 := Lib.hid (ho2.out.on hB3)
              go_wp2_with fail
              go_ret3
              refine ⟨hb2.trans (hB3.mono hb2.size), ?_⟩
              rw [Hr.out]
              exact ⟨ao, cc, rfl, ho3.out⟩
        · have hy1 : (l.getD (j + 1) 0 == 0) = false := by rw [beq_eq_false_iff_ne]; exact hy
          have hd2 := Lib.hid (hd.out.trans (dtS_mark HJ.out hx hy))
          clear hx hy hd
          generalize l.getD (j + 1) 0 = y at *
          go_wp2_with (at_builtin; refine wpList_append_lies _ rfl (.tmp 49) (.tmp 54) 23 rfl w.heap.size 5 i0 _ 1 1 Try.underlying23 hi hz0 hz1 hz2 rfl (by decide) _ t.length (bs t) rfl (World.ownsRow.alloc hown.out _) ⟨wr.heap.size, 0, none⟩ 1 1 (bs [0]) rfl rfl (one_cell wr 0) (bs_one [0]) (by decide) (by unfold maxLen; omega) (by omega) (by simp; omega) (wr.heap.size + 1) (by simp) ?_; intro g3 c3 w3 hown3 hgrow3 _ _; have hB3 : Below w.heap.size w w3 := (hB.alloc hB.size _).grown hgrow3 (by simp; omega) (fun k hk => (World.ownsRow.lt hown.out k hk).1); have c3' := (hB3.cell (p := a.add j) (by rw [add_block]; exact ha0)).trans ((hB.cell (p := a.add j) (by rw [add_block]; exact ha0)).symm.trans c1))
          have hown4 := Lib.hid (Own.put (l := t) (m := [0]) hown3 rfl rfl)
          clear hown3 hgrow3 hown
          go_wp2
          go_roundw
          case rel => exact ⟨j + 2, t ++ [0], some ⟨g3, 0, none⟩, c3, by omega, by go_num, by simp, by rw [List.length_append]; exact hown4, hd2, by simp; omega, hB3⟩
          case measure => simp [intOf]; omega
      · have hx1 : (l.getD j 0 == 0) = false := by rw [beq_eq_false_iff_ne]; exact hx
        have hd2 := Lib.hid (hd.out.trans (dtS_byte HJ.out hx))
        clear hx hd
        generalize l.getD j 0 = x at *
        go_wp2_with (at_builtin; refine wpList_append_lies _ rfl (.tmp 49) (.tmp 54) 23 rfl w.heap.size 5 i0 _ 1 1 Try.underlying23 hi hz0 hz1 hz2 rfl (by decide) _ t.length (bs t) rfl (World.ownsRow.alloc hown.out _) ⟨wr.heap.size, 0, none⟩ 1 1 (bs [x]) rfl rfl (one_cell wr x) (bs_one [x]) (by decide) (by unfold maxLen; omega) (by omega) (by simp; omega) (wr.heap.size + 1) (by simp) ?_; intro g3 c3 w3 hown3 hgrow3 _ _; have hB3 : Below w.heap.size w w3 := (hB.alloc hB.size _).grown hgrow3 (by simp; omega) (fun k hk => (World.ownsRow.lt hown.out k hk).1); have c3' := (hB3.cell (p := a.add j) (by rw [add_block]; exact ha0)).trans ((hB.cell (p := a.add j) (by rw [add_block]; exact ha0)).symm.trans c1))
        have hown4 := Lib.hid (Own.put (l := t) (m := [x]) hown3 rfl rfl)
        clear hown3 hgrow3 hown
        go_wp2
        go_roundw
        case rel => exact ⟨j + 1, t ++ [x], some ⟨g3, 0, none⟩, c3, by omega, by go_num, by simp, by rw [List.length_append]; exact hown4, hd2, by simp; omega, hB3⟩
        case measure => simp [intOf]; omega
    · have Hr := Lib.hid (D1.out (hd.out.trans (dtS_short (by rw [HL.out]; exact hlt))))
      clear hd
      go_wp2_with fail
      go_ret3
      exact RtPost.none_mk hB rfl Hr.out
set_option maxHeartbeats 1000000 in
theorem dt_none (ao : Option Addr) (c most : Nat) (w : World) (hm : most ≤ 65536) :
    Calls Try.prog 25 #[.slice ao 0 c, .int .i64 most] w (RtPost none w) := by
  go_enter Try.func25, Try.ntmps25
  go_wp2
  refine wp_loop_rounds 1 ?_
  rw [rounds_succ]
  go_wp2
  go_ret3
  exact RtPost.none_mk (Below.refl _ _) rfl rfl
theorem dt_any (ao : Option Addr) (n c most : Nat) (l : List Int) (w : World) (hm : most ≤ 65536) (hnc : n ≤ c) (hcm : c ≤ maxLen) (hn : n ≤ 140737488351232) (hl : l.length = n) (ha : Rd w ao l) :
    Calls Try.prog 25 #[.slice ao n c, .int .i64 most] w (RtPost (rt most false [] 0 l) w) := by
  subst hl
  by_cases h : l = []
  · subst h
    exact dt_none ao c most w hm
  · obtain ⟨a, rfl, h1, h2⟩ := ha.here h
    exact dt_some a _ c most l w hm hnc hcm hn rfl h1 ha h2
/-- Of a limit that may not be, both say so. -/
def ArgPost (w : World) (e : Ending) (w' : World) : Prop := e = .returned (.tuple #[.slice none 0 0, .int .i64 0, .int .i64 1]) ∧ Below w.heap.size w w'
set_option maxHeartbeats 1000000 in
theorem rt_arg (ao : Option Addr) (n c : Nat) (most : Int) (w : World) (h : most < 0 ∨ 65536 < most) : Calls Try.prog 22 #[.slice ao n c, .int .i64 most] w (ArgPost w) := by
  rcases h with h | h
  · have h1 : decide (most < 0) = true := decide_eq_true h
    go_enter Try.func22, Try.ntmps22
    go_wp2
    go_ret3
    exact ⟨rfl, Below.refl _ _⟩
  · have h1 : decide (most < 0) = false := decide_eq_false (by omega)
    have h2 : decide ((65536 : Int) < most) = true := decide_eq_true h
    go_enter Try.func22, Try.ntmps22
    go_wp2
    go_ret3
    exact ⟨rfl, Below.refl _ _⟩
set_option maxHeartbeats 1000000 in
theorem dt_arg (ao : Option Addr) (n c : Nat) (most : Int) (w : World) (h : most < 0 ∨ 65536 < most) : Calls Try.prog 25 #[.slice ao n c, .int .i64 most] w (ArgPost w) := by
  rcases h with h | h
  · have h1 : decide (most < 0) = true := decide_eq_true h
    go_enter Try.func25, Try.ntmps25
    go_wp2
    go_ret3
    exact ⟨rfl, Below.refl _ _⟩
  · have h1 : decide (most < 0) = false := decide_eq_false (by omega)
    have h2 : decide ((65536 : Int) < most) = true := decide_eq_true h
    go_enter Try.func25, Try.ntmps25
    go_wp2
    go_ret3
    exact ⟨rfl, Below.refl _ _⟩
end Go.Proofs.Ytnjapbfnodfgpaa.Rk
