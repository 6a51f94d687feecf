/- commit: SameBytes, Spare and Kept, walked. -/
import Derived.Test.YtklalpamcfkngaaE2
import Derived.Test.YtklalpamcfkngaaC2
import Derived.Laws.AppendOwnNone
import Derived.BigQuiet
namespace Go.Proofs.Ytklalpamcfkngaa.Cm
open Go Go.RowKit
theorem rd_row {w : World} {B : Nat} {ao : Option Addr} {n cap : Nat} {L : List Int} (h : w.ownsRow B 5 1 (.slice ao n cap) n (u8s L)) : Rd w ao L := fun i x hx => by
  obtain ⟨ao2, cap2, e, _, h2⟩ := own_slice h
  cases e
  obtain ⟨g, hg, hlt, hc⟩ := h2 i (.int .u8 x) (by unfold u8s; rw [List.getElem?_map, hx]; rfl)
  subst hg
  exact ⟨g, 0, rfl, hlt, by rw [Nat.zero_add]; exact hc⟩
theorem row_len {w : World} {B n : Nat} {v : Value} {L : List Int} (h : w.ownsRow B 5 1 v n (u8s L)) : L.length = n := by have := h.1; rw [u8s_len] at this; omega
set_option maxHeartbeats 2000000 in
theorem same_any (ao bo : Option Addr) (n ca cb : Nat) (L : List Int) (w : World) (hn : L.length = n) (hl : n ≤ 140737488355328) (ha : Rd w ao L) (hb : Rd w bo L) :
    Calls Try.prog 15 #[.slice ao n ca, .slice bo n cb] w fun e w' => e = .returned (.bool true) ∧ Below w.heap.size w w' := by
  have HL := Lib.hid (And.intro hn (And.intro ha hb))
  clear hn ha hb
  have H0 := Lib.hid (show Below w.heap.size w w from Below.refl _ _)
  go_enter Try.func15, Try.ntmps15
  go_wp2
  go_loopw [13] (fun u wr => ∃ k : Nat, k ≤ n ∧ u = .int .i64 k ∧ Hid (wr.heap = w.heap ∧ Below w.heap.size w wr)) (fun u _ => n - (intOf u).toNat)
  case atStart => exact ⟨0, by omega, rfl, Lib.hid ⟨rfl, H0.out⟩⟩
  case round =>
    obtain ⟨k, hk, rfl, HR⟩ := hrel
    clear H0
    by_cases hlt : k < n
    · obtain ⟨t, ht⟩ : ∃ t, L[k]? = some t := ⟨_, List.getElem?_eq_getElem (by rw [HL.out.1]; exact hlt)⟩
      obtain ⟨g, o1, rfl, _, a0⟩ := HL.out.2.1 k t ht
      obtain ⟨g2, o2, rfl, _, b0⟩ := HL.out.2.2 k t ht
      have ce : ∀ x, wr.cell? x = w.cell? x := fun x => by simp [World.cell?, HR.out.1]
      rw [← ce] at a0 b0
      clear ht ce
      go_upto_region 6 with fail
      go_quiet (fail)
      go_wp2
      have HR2 := Lib.hid (show (wr.drewN nq).heap = w.heap ∧ Below w.heap.size w (wr.drewN nq) from ⟨HR.out.1, HR.out.2.trans ((drewN_below wr nq).mono HR.out.2.size)⟩)
      go_roundw
      case rel => exact ⟨k + 1, by omega, by go_num, HR2⟩
      case measure => simp [intOf]; omega
    · obtain rfl : k = n := by omega
      go_wp2
      go_ret
      exact ⟨rfl, HR.out.2⟩
theorem nil_lit (w : World) : (w.alloc (.cells #[] 5)).ownsRow w.heap.size 5 1 (.slice (some ⟨w.heap.size, 0, none⟩) 0 0) 0 (u8s []) :=
  World.ownsRow_lit (base := w.heap.size) (e := 5) (size := 1) w #[] 0 (Nat.le_refl _) (Nat.zero_le _) rfl
theorem three_cells (w : World) (x y z : Int) : ∀ j u, [Value.int .u8 x, Value.int .u8 y, Value.int .u8 z][j]? = some u → (w.alloc (.cells #[.int .u8 x, .int .u8 y, .int .u8 z] 5)).cell? ((⟨w.heap.size, 0, none⟩ : Addr).add j) = some u :=
  World.news_of_block (heap_alloc_new w (.cells #[.int .u8 x, .int .u8 y, .int .u8 z] 5))
theorem u8_one (L : List Int) : ∀ u ∈ u8s L, u.oneCell' = true := by
  intro u hu
  obtain ⟨x, _, rfl⟩ := List.mem_map.1 hu
  rfl
theorem rd_news {w : World} {a : Addr} {L : List Int} (h : Rd w (some a) L) : ∀ j u, (u8s L)[j]? = some u → w.cell? (a.add j) = some u := by
  intro j u hu
  unfold u8s at hu
  rw [List.getElem?_map] at hu
  obtain ⟨x, hx, rfl⟩ := Option.map_eq_some_iff.1 hu
  obtain ⟨b, off, e, _, hc⟩ := h j x hx
  obtain rfl := Option.some.inj e
  rw [Go.WideShapes.add_plain]
  exact hc
theorem row_cap {w : World} {B n g cap : Nat} {xs : List Value} (h : w.ownsRow B 5 1 (.slice (some ⟨g, 0, none⟩) n cap) n xs) : n ≤ cap ∧ cap ≤ maxLen := by
  rcases h.2 with ⟨e, _⟩ | ⟨g', cap', cur, e, _, _, h3, h4, _⟩
  · cases e
  · cases e; exact ⟨h3, h4⟩
def full (L : List Int) : List Int := L ++ [165, 90, 165]
def SpareR (n : Nat) (L : List Int) (w : World) (e : Ending) (w' : World) : Prop :=
  ∃ g cc, e = .returned (.tuple #[.slice (some ⟨g, 0, none⟩) n cc, .slice (some ⟨g, 0, none⟩) (n + 3) cc]) ∧ w'.ownsRow w.heap.size 5 1 (.slice (some ⟨g, 0, none⟩) (n + 3) cc) (n + 3) (u8s (full L)) ∧ Below w.heap.size w w'
set_option maxHeartbeats 2000000 in
theorem spare_none (w : World) : Calls Try.prog 17 #[.slice none 0 0] w (SpareR 0 [] w) := by
  obtain ⟨i0, hi, hz0, hz1, hz2⟩ := info_parts info5
  have hO := Lib.hid ((World.ownsRow.alloc (nil_lit w) (.cells #[.int .u8 165, .int .u8 90, .int .u8 165] 5)))
  have hO1 := Lib.hid (nil_lit w)
  have hb : Below w.heap.size w ((w.alloc (.cells #[] 5)).alloc (.cells #[.int .u8 165, .int .u8 90, .int .u8 165] 5)) := ((Below.refl _ _).alloc (Nat.le_refl _) _).alloc (by simp) _
  go_enter Try.func17, Try.ntmps17
  go_wp2_with (first
    | (at_builtin; refine wpList_append_own_none rfl (.tmp 5) (.tmp 6) 34 rfl w.heap.size 5 i0 1 Try.underlying34 hi _ 0 (u8s []) rfl hO1.out rfl ?_)
    | (at_builtin; refine wpList_append_lies _ rfl (.tmp 7) (.tmp 8) 34 rfl w.heap.size 5 i0 _ 1 1 Try.underlying34 hi hz0 hz1 hz2 rfl (by decide) _ 0 (u8s []) rfl hO.out ⟨w.heap.size + 1, 0, none⟩ 3 3 (u8s [165, 90, 165]) rfl rfl (by have := three_cells (w.alloc (.cells #[] 5)) 165 90 165; rwa [World.size_alloc] at this) (u8_one _) (by decide) (by unfold maxLen; omega) (by omega) (by simp; omega) (w.heap.size + 2) (by simp) ?_; intro g3 c3 w3 hown3 hgrow3 _ _; have hcc := row_cap hown3; have hcc2 := hcc; unfold maxLen at hcc2))
  have hB3 : Below w.heap.size w w3 := hb.grown hgrow3 (by simp; omega) (fun k hk => (World.ownsRow.lt hO.out k hk).1)
  clear hgrow3
  refine bodyPost_ret (v := .tuple #[.slice (some ⟨g3, 0, none⟩) 0 c3, .slice (some ⟨g3, 0, none⟩) 3 c3]) (by simp [results, Try.results17, go_sem]) rfl ⟨g3, c3, rfl, hown3, hB3⟩
set_option maxHeartbeats 2000000 in
theorem spare_some (a : Addr) (n c : Nat) (L : List Int) (w : World) (hn : n + 3 ≤ 140737488355328) (hl : L.length = n) (ha : Rd w (some a) L) : Calls Try.prog 17 #[.slice (some a) n c] w (SpareR n L w) := by
  obtain ⟨i0, hi, hz0, hz1, hz2⟩ := info_parts info5
  have hb : Below w.heap.size w (w.alloc (.cells #[] 5)) := (Below.refl _ _).alloc (Nat.le_refl _) _
  have Hc := Lib.hid (rd_news (ha.on hb (Nat.le_refl _)))
  have hO1 := Lib.hid (nil_lit w)
  have Hbl := Lib.hid (show (u8s L).length = n * 1 by rw [u8s_len, hl]; omega)
  clear hl ha
  go_enter Try.func17, Try.ntmps17
  go_wp2_with (first
    | (at_builtin; refine wpList_append_own _ rfl (.tmp 5) (.tmp 6) 34 rfl w.heap.size 5 i0 _ 1 1 Try.underlying34 hi hz0 hz1 hz2 rfl (by decide) _ 0 (u8s []) rfl hO1.out a n c (u8s L) rfl Hbl.out Hc.out (u8_one L) (by unfold maxLen; omega) (by omega) (by simp) ?_; intro v2 w2 hown2 hgrow2 _; have hB2 : Below w.heap.size w w2 := hb.grown hgrow2 (by simp) (fun k hk => (World.ownsRow.lt hO1.out k hk).1); have hs2 := hB2.size; have hO2 := World.ownsRow.alloc hown2 (.cells #[.int .u8 165, .int .u8 90, .int .u8 165] 5); clear hgrow2)
    | (at_builtin; refine wpList_append_lies _ rfl (.tmp 7) (.tmp 8) 34 rfl w.heap.size 5 i0 _ 1 1 Try.underlying34 hi hz0 hz1 hz2 rfl (by decide) _ (0 + n) _ rfl hO2 ⟨w2.heap.size, 0, none⟩ 3 3 (u8s [165, 90, 165]) rfl rfl (three_cells w2 165 90 165) (u8_one _) (by decide) (by unfold maxLen; omega) (by omega) (by simp; omega) (w2.heap.size + 1) (by simp) ?_; intro g3 c3 w3 hown3 hgrow3 _ _; have hcc := row_cap hown3; have hcc2 := hcc; unfold maxLen at hcc2; rw [Nat.zero_add]; rw [Nat.zero_add] at hcc2))
  have hB3 : Below w.heap.size w w3 := (hB2.alloc hs2 _).grown hgrow3 (by simp; omega) (fun k hk => (World.ownsRow.lt hO2 k hk).1)
  have ho : w3.ownsRow w.heap.size 5 1 (.slice (some ⟨g3, 0, none⟩) (n + 3) c3) (n + 3) (u8s (full L)) := by
    unfold full
    rw [u8s_app]
    have := hown3
    rw [Nat.zero_add] at this
    exact this
  rw [Nat.zero_add] at hcc
  clear hgrow3 hown3
  refine bodyPost_ret (v := .tuple #[.slice (some ⟨g3, 0, none⟩) n c3, .slice (some ⟨g3, 0, none⟩) (n + 3) c3]) (by simp [results, Try.results17, go_sem]) rfl ⟨g3, c3, rfl, ho, hB3⟩
/-- Spare: a copy with marked room behind it. -/
theorem spare_any (ao : Option Addr) (n c : Nat) (L : List Int) (w : World) (hn : n + 3 ≤ 140737488355328) (hl : L.length = n) (ha : Rd w ao L) (h0 : ao = none → c = 0) : Calls Try.prog 17 #[.slice ao n c] w (SpareR n L w) := by
  cases ao with
  | some a => exact spare_some a n c L w hn hl ha
  | none =>
    obtain rfl := h0 rfl
    obtain rfl : L = [] := by
      cases L with
      | nil => rfl
      | cons x l => obtain ⟨b, off, h, _⟩ := ha 0 x rfl; cases h
    subst hl
    exact spare_none w
theorem rd_full {w : World} {g : Nat} {L : List Int} (h : Rd w (some ⟨g, 0, none⟩) (full L)) : Rd w (some ⟨g, 0, none⟩) L := fun i x hx => h i x (by unfold full; rw [List.getElem?_append_left (List.getElem?_eq_some_iff.1 hx).1]; exact hx)
theorem full_tail {w : World} {g n : Nat} {L : List Int} (h : Rd w (some ⟨g, 0, none⟩) (full L)) (hl : L.length = n) : w.cell? ⟨g, n, none⟩ = some (.int .u8 165) ∧ w.cell? ⟨g, n + 1, none⟩ = some (.int .u8 90) ∧ w.cell? ⟨g, n + 2, none⟩ = some (.int .u8 165) := by
  have tail : ∀ j x, [(165 : Int), 90, 165][j]? = some x → w.cell? ⟨g, n + j, none⟩ = some (.int .u8 x) := by
    intro j x hj
    obtain ⟨b, off, e, _, hc⟩ := h (n + j) x (by unfold full; rw [List.getElem?_append_right (by omega), hl, Nat.add_sub_cancel_left]; exact hj)
    cases e
    rw [Nat.zero_add] at hc
    exact hc
  exact ⟨tail 0 165 rfl, tail 1 90 rfl, tail 2 165 rfl⟩
set_option maxHeartbeats 2000000 in
/-- Kept: what was marked is as it was laid. -/
theorem kept_any (g : Nat) (cc : Nat) (ao : Option Addr) (n c : Nat) (L : List Int) (w : World) (hn : n + 3 ≤ cc) (_ : cc ≤ maxLen) (hm : n + 3 ≤ 140737488355328) (hl : L.length = n) (hf : Rd w (some ⟨g, 0, none⟩) (full L)) (ha : Rd w ao L) :
    Calls Try.prog 19 #[.slice (some ⟨g, 0, none⟩) (n + 3) cc, .slice ao n c] w fun e w' => e = .returned (.bool true) ∧ Below w.heap.size w w' := by
  obtain ⟨h0, h1, h2⟩ := full_tail hf hl
  have HS := Lib.hid (same_any (some ⟨g, 0, none⟩) ao n cc c L w hl (by omega) (rd_full hf) ha)
  have hlt : g < w.heap.size := World.block_lt_of_cell? w _ h0
  clear hl hf ha
  go_enter Try.func19, Try.ntmps19
  go_wp2_with fail
  refine HS.out.mono ?_
  rintro e w1 ⟨rfl, hB⟩
  have c0 := (hB.cell (p := ⟨g, n, none⟩) hlt).trans h0
  have c1 := (hB.cell (p := ⟨g, n + 1, none⟩) hlt).trans h1
  have c2 := (hB.cell (p := ⟨g, n + 2, none⟩) hlt).trans h2
  clear HS h0 h1 h2
  go_wp2_with fail
  go_ret
  exact ⟨rfl, hB⟩
end Go.Proofs.Ytklalpamcfkngaa.Cm
