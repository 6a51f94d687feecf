/- The walks of Twin, Spare and Kept. -/
import Derived.Test.YtnjapbfnodfgpaaW20
import Derived.Laws.AppendOwnNone
namespace Go.Proofs.Ytnjapbfnodfgpaa.Rk
open Go Go.RowKit
theorem nil_lit (w : World) (B : Nat) (hB : B ≤ w.heap.size) : Own (w.alloc (.cells #[] 5)) B (.slice (some ⟨w.heap.size, 0, none⟩) 0 0) [] :=
  World.ownsRow_lit (base := B) (e := 5) (size := 1) w #[] 0 hB (Nat.zero_le _) rfl
theorem three_cells (w : World) (x y z : Int) : ∀ j u, [Value.int .u8 x, Value.int .u8 y, Value.int .u8 z][j]? = some u → (w.alloc (.cells #[.int .u8 x, .int .u8 y, .int .u8 z] 5)).cell? ((⟨w.heap.size, 0, none⟩ : Addr).add j) = some u := by
  intro j u hu
  match j, hu with
  | 0, hu => simp at hu; subst hu; simp [Addr.add]
  | 1, hu => simp at hu; subst hu; simp [Addr.add]
  | 2, hu => simp at hu; subst hu; simp [Addr.add]
set_option maxHeartbeats 1000000 in
/-- Twin, of bytes that stand somewhere. -/
theorem twin_any (a : Addr) (n c : Nat) (l : List Int) (w : World) (hn : n ≤ 140737488351232) (hl : l.length = n) (h0 : 0 < n) (ha : Rd w (some a) l) :
    GivesS 20 #[.slice (some a) n c] l w := by
  obtain ⟨i0, hi, hz0, hz1, hz2⟩ := info_parts info5
  have hb : Below w.heap.size w (w.alloc (.cells #[] 5)) := (Below.refl _ _).alloc (Nat.le_refl _) _
  have Hc := Lib.hid (rd_cells (ha.on hb (Nat.le_refl _)))
  have HL := Lib.hid hl
  have hO := Lib.hid (nil_lit w w.heap.size (Nat.le_refl _))
  have Hbl := Lib.hid (show (bs l).length = n * 1 by rw [bs_length, hl]; omega)
  unfold GivesS
  rw [hl]
  clear hl ha
  go_enter Try.func20, Try.ntmps20
  go_wp2_with (at_builtin; refine wpList_append_lies _ rfl (.tmp 3) (.tmp 4) 23 rfl w.heap.size 5 i0 _ 1 1 Try.underlying23 hi hz0 hz1 hz2 rfl (by decide) _ 0 (bs []) rfl hO.out a n c (bs l) rfl Hbl.out Hc.out (bs_one l) h0 (by unfold maxLen; omega) (by omega) (by simp) (w.heap.size + 1) (by simp) ?_; intro g3 c3 w3 hown3 hgrow3 _ _)
  have hB3 : Below w.heap.size w w3 := hb.grown hgrow3 (by simp) (fun k hk => (World.ownsRow.lt hO.out k hk).1)
  have ho : Own w3 w.heap.size (.slice (some ⟨g3, 0, none⟩) (0 + n) c3) ([] ++ l) := Own.put hown3 rfl HL.out
  rw [Nat.zero_add, List.nil_append] at ho
  clear hown3 hgrow3
  go_ret
  exact ⟨g3, c3, by simp, ⟨ho, by have := own_rd (l := l) (n := n) (by unfold Own at ho; rwa [HL.out] at ho) HL.out; exact this⟩, hB3⟩
def SpareR (n : Nat) (l : List Int) (w : World) (e : Ending) (w' : World) : Prop :=
  ∃ g cc, e = .returned (.tuple #[.slice (some ⟨g, 0, none⟩) n cc, .slice (some ⟨g, 0, none⟩) (n + 3) cc]) ∧ (Own w' w.heap.size (.slice (some ⟨g, 0, none⟩) (n + 3) cc) (l ++ [165, 90, 165]) ∧ n + 3 ≤ cc ∧ cc ≤ maxLen) ∧ Below w.heap.size w w'
set_option maxHeartbeats 1000000 in
theorem spare_none (w : World) : Calls Try.prog 10 #[.slice none 0 0] w (SpareR 0 [] w) := by
  obtain ⟨i0, hi, hz0, hz1, hz2⟩ := info_parts info5
  have hO := Lib.hid ((World.ownsRow.alloc (nil_lit w w.heap.size (Nat.le_refl _)) (.cells #[.int .u8 165, .int .u8 90, .int .u8 165] 5)))
  have hO1 := Lib.hid (nil_lit w w.heap.size (Nat.le_refl _))
  have hb : Below w.heap.size w ((w.alloc (.cells #[] 5)).alloc (.cells #[.int .u8 165, .int .u8 90, .int .u8 165] 5)) := ((Below.refl _ _).alloc (Nat.le_refl _) _).alloc (by simp) _
  go_enter Try.func10, Try.ntmps10
  go_wp2_with (first
    | (at_builtin; refine wpList_append_own_none rfl (.tmp 5) (.tmp 6) 23 rfl w.heap.size 5 i0 1 Try.underlying23 hi _ 0 (bs []) rfl hO1.out rfl ?_)
    | (at_builtin; refine wpList_append_lies _ rfl (.tmp 7) (.tmp 8) 23 rfl w.heap.size 5 i0 _ 1 1 Try.underlying23 hi hz0 hz1 hz2 rfl (by decide) _ 0 (bs []) rfl hO.out ⟨w.heap.size + 1, 0, none⟩ 3 3 (bs [165, 90, 165]) rfl rfl (by have := three_cells (w.alloc (.cells #[] 5)) 165 90 165; rwa [World.size_alloc] at this) (bs_one _) (by decide) (by unfold maxLen; omega) (by omega) (by simp; omega) (w.heap.size + 2) (by simp) ?_; intro g3 c3 w3 hown3 hgrow3 _ _; have hcc := own_cap hown3; have hcc2 := hcc; unfold maxLen at hcc2))
  have hB3 : Below w.heap.size w w3 := hb.grown hgrow3 (by simp; omega) (fun k hk => (World.ownsRow.lt hO.out k hk).1)
  clear hgrow3
  refine bodyPost_ret (v := .tuple #[.slice (some ⟨g3, 0, none⟩) 0 c3, .slice (some ⟨g3, 0, none⟩) 3 c3]) (by simp [results, Try.results10, go_sem]) rfl ⟨g3, c3, rfl, ⟨Own.put (l := []) (m := [165, 90, 165]) hown3 rfl rfl, by simpa using hcc.1, hcc.2⟩, hB3⟩
set_option maxHeartbeats 1000000 in
theorem spare_some (a : Addr) (n c : Nat) (l : List Int) (w : World) (hn : n + 3 ≤ 140737488355328) (hl : l.length = n) (ha : Rd w (some a) l) : Calls Try.prog 10 #[.slice (some a) n c] w (SpareR n l w) := by
  obtain ⟨i0, hi, hz0, hz1, hz2⟩ := info_parts info5
  have hb : Below w.heap.size w (w.alloc (.cells #[] 5)) := (Below.refl _ _).alloc (Nat.le_refl _) _
  have Hc := Lib.hid (rd_cells (ha.on hb (Nat.le_refl _)))
  have HL := Lib.hid hl
  have hO1 := Lib.hid (nil_lit w w.heap.size (Nat.le_refl _))
  have Hbl := Lib.hid (show (bs l).length = n * 1 by rw [bs_length, hl]; omega)
  clear hl ha
  go_enter Try.func10, Try.ntmps10
  go_wp2_with (first
    | (at_builtin; refine wpList_append_own _ rfl (.tmp 5) (.tmp 6) 23 rfl w.heap.size 5 i0 _ 1 1 Try.underlying23 hi hz0 hz1 hz2 rfl (by decide) _ 0 (bs []) rfl hO1.out a n c (bs l) rfl Hbl.out Hc.out (bs_one l) (by unfold maxLen; omega) (by omega) (by simp) ?_; intro v2 w2 hown2 hgrow2 _; have hB2 : Below w.heap.size w w2 := hb.grown hgrow2 (by simp) (fun k hk => (World.ownsRow.lt hO1.out k hk).1); have hs2 := hB2.size; have hO2 := World.ownsRow.alloc hown2 (.cells #[.int .u8 165, .int .u8 90, .int .u8 165] 5); clear hgrow2)
    | (at_builtin; refine wpList_append_lies _ rfl (.tmp 7) (.tmp 8) 23 rfl w.heap.size 5 i0 _ 1 1 Try.underlying23 hi hz0 hz1 hz2 rfl (by decide) _ (0 + n) _ rfl hO2 ⟨w2.heap.size, 0, none⟩ 3 3 (bs [165, 90, 165]) rfl rfl (three_cells w2 165 90 165) (bs_one _) (by decide) (by unfold maxLen; omega) (by omega) (by simp; omega) (w2.heap.size + 1) (by simp) ?_; intro g3 c3 w3 hown3 hgrow3 _ _; have hcc := own_cap hown3; have hcc2 := hcc; unfold maxLen at hcc2; rw [Nat.zero_add]; rw [Nat.zero_add] at hcc2))
  have hB3 : Below w.heap.size w w3 := (hB2.alloc hs2 _).grown hgrow3 (by simp; omega) (fun k hk => (World.ownsRow.lt hO2 k hk).1)
  have ho : Own w3 w.heap.size (.slice (some ⟨g3, 0, none⟩) (0 + n + 3) c3) (l ++ [165, 90, 165]) := Own.put (l := l) (m := [165, 90, 165]) hown3 (by rw [HL.out]; omega) rfl
  rw [Nat.zero_add] at ho hcc
  clear hgrow3 hown3
  refine bodyPost_ret (v := .tuple #[.slice (some ⟨g3, 0, none⟩) n c3, .slice (some ⟨g3, 0, none⟩) (n + 3) c3]) (by simp [results, Try.results10, go_sem]) rfl ⟨g3, c3, rfl, ⟨ho, hcc.1, hcc.2⟩, hB3⟩
/-- Spare: a copy with marked room behind it. -/
theorem spare_any (ao : Option Addr) (n c : Nat) (l : List Int) (w : World) (hn : n + 3 ≤ 140737488355328) (hl : l.length = n) (ha : Rd w ao l) (h0 : ao = none → c = 0) : Calls Try.prog 10 #[.slice ao n c] w (SpareR n l w) := by
  cases ao with
  | some a => exact spare_some a n c l w hn hl ha
  | none =>
    obtain rfl := h0 rfl
    obtain rfl : l = [] := by
      cases l with
      | nil => rfl
      | cons x l => obtain ⟨a, h, _⟩ := ha 0 (by simp); cases h
    subst hl
    exact spare_none w
theorem kept_facts {w : World} {g : Nat} {l : List Int} (h : Rd w (some ⟨g, 0, none⟩) (l ++ [165, 90, 165])) :
    Rd w (some ⟨g, 0, none⟩) l ∧ w.cell? ⟨g, l.length, none⟩ = some (.int .u8 165) ∧ w.cell? ⟨g, l.length + 1, none⟩ = some (.int .u8 90) ∧ w.cell? ⟨g, l.length + 2, none⟩ = some (.int .u8 165) := by
  have tail : ∀ j x, [165, 90, 165][j]? = some x → w.cell? ⟨g, l.length + j, none⟩ = some (.int .u8 x) := by
    intro j x hj
    have hj3 : j < 3 := (List.getElem?_eq_some_iff.1 hj).1
    obtain ⟨a, h1, _, h3⟩ := h (l.length + j) (by simp; omega)
    cases h1
    rw [addr0] at h3
    rw [h3, List.getD_eq_getElem?_getD, List.getElem?_append_right (by omega), Nat.add_sub_cancel_left, hj]
    rfl
  refine ⟨fun k hk => ?_, tail 0 165 rfl, tail 1 90 rfl, tail 2 165 rfl⟩
  obtain ⟨a, h1, h2, h3⟩ := h k (by rw [List.length_append]; omega)
  refine ⟨a, h1, h2, ?_⟩
  rw [h3, List.getD_eq_getElem?_getD, List.getD_eq_getElem?_getD, List.getElem?_append_left hk]
set_option maxHeartbeats 1000000 in
/-- Kept: what was marked is as it was laid. -/
theorem kept_any (g : Nat) (cc : Nat) (ao : Option Addr) (n c : Nat) (l : List Int) (w : World) (hn : n + 3 ≤ cc) (hcc : cc ≤ maxLen) (hl : l.length = n) (hf : Rd w (some ⟨g, 0, none⟩) (l ++ [165, 90, 165])) (ha : Rd w ao l) :
    Calls Try.prog 18 #[.slice (some ⟨g, 0, none⟩) (n + 3) cc, .slice ao n c] w fun e w' => e = .returned (.bool true) ∧ Below w.heap.size w w' := by
  obtain ⟨hr, h0, h1, h2⟩ := kept_facts hf
  rw [hl] at h0 h1 h2
  have hm : n ≤ maxLen := Nat.le_trans (by omega) hcc
  unfold maxLen at hcc
  have HS := Lib.hid (same_says' (x := true) cc c hl hl (by rw [hl]; exact hm) hr ha (decide_eq_true rfl))
  have hlt : g < w.heap.size := World.block_lt_of_cell? w _ h0
  clear hm hl hf ha hr
  go_enter Try.func18, Try.ntmps18
  go_wp2_with fail
  refine HS.out.mono ?_
  rintro e w1 ⟨rfl, hB⟩
  have c0 := (hB.cell (p := ⟨g, n, none⟩) hlt).trans h0
  have c1 := (hB.cell (p := ⟨g, n + 1, none⟩) hlt).trans h1
  have c2 := (hB.cell (p := ⟨g, n + 2, none⟩) hlt).trans h2
  clear HS h0 h1 h2
  go_wp2_with fail
  go_ret
  exact ⟨rfl, hB⟩
end Go.Proofs.Ytnjapbfnodfgpaa.Rk
