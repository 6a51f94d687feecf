/- The walk of a row's code. -/
import Derived.Test.YtnjapbfnodfgpaaW16
import Derived.Deep.RegionHeld3
import Derived.Deep.AppendLies
namespace Go.Proofs.Ytnjapbfnodfgpaa.Rk
open Go Go.RowKit
/-- A call that answers bytes of its own, at least one. -/
def GivesS (f : FuncId) (args : Array Value) (l : List Int) (w : World) : Prop :=
  Calls Try.prog f args w fun e w' => ∃ g c, e = .returned (.slice (some ⟨g, 0, none⟩) l.length c) ∧ (Own w' w.heap.size (.slice (some ⟨g, 0, none⟩) l.length c) l ∧ Rd w' (some ⟨g, 0, none⟩) l) ∧ Below w.heap.size w w'
theorem gives_some {f : FuncId} {args : Array Value} {l : List Int} {w : World} (hl : 0 < l.length) (h : Calls Try.prog f args w fun e w' => ∃ v, e = .returned v ∧ Own w' w.heap.size v l ∧ Below w.heap.size w w') : GivesS f args l w := by
  refine h.mono ?_
  rintro e w' ⟨v, rfl, ho, hb⟩
  have ho' := ho
  unfold Own at ho'
  rcases ho'.2 with ⟨_, h0⟩ | ⟨g, c, cur, rfl, _⟩
  · omega
  · exact ⟨g, c, rfl, ⟨ho, own_rd ho' rfl⟩, hb⟩
theorem intC_pos_len (n : Int) : 0 < (intC n).length := by unfold intC; split <;> simp
theorem textC_pos_len (l : List Int) : 0 < (textC l).length := by unfold textC; simp
theorem uintC_pos_len (n : Nat) : 0 < (uintC n).length := by unfold uintC; simp
theorem box_cells (w : World) (x y z : Value) (T : TypeId) : (w.alloc (.cells #[x, y, z] T)).cell? ⟨w.heap.size, 0, none⟩ = some x ∧ (w.alloc (.cells #[x, y, z] T)).cell? ⟨w.heap.size, 1, none⟩ = some y ∧ (w.alloc (.cells #[x, y, z] T)).cell? ⟨w.heap.size, 2, none⟩ = some z := by
  refine ⟨?_, ?_, ?_⟩ <;> simp
theorem Own.base {w : World} {B C : Nat} {v : Value} {l : List Int} (h : Own w B v l) (hC : C ≤ B) : Own w C v l := by
  unfold Own at h ⊢
  refine ⟨h.1, ?_⟩
  rcases h.2 with h1 | ⟨g, cap, cur, h1, h2, h3⟩
  · exact .inl h1
  · exact .inr ⟨g, cap, cur, h1, Nat.le_trans hC h2, h3⟩
theorem rd_cells {w : World} {a : Addr} {l : List Int} (h : Rd w (some a) l) : ∀ j u, (bs l)[j]? = some u → w.cell? (a.add j) = some u := h.cells
set_option maxHeartbeats 3200000 in
theorem row_any (ao : Option Addr) (n c : Nat) (N M : Int) (l : List Int) (w : World) (hl : l.length = n) (hn : n ≤ 500) (hR : Rd w ao l)
    (n0 : -9223372036854775808 ≤ N) (n1 : N ≤ 9223372036854775807) (m0 : 0 ≤ M) (m1 : M ≤ 18446744073709551615) :
    Calls Try.prog 27 #[.agg #[.int .i64 N, .slice ao n c, .int .u64 M]] w fun e w' => ∃ v, e = .returned v ∧ Own w' w.heap.size v (intC N ++ textC l ++ uintC M.toNat) ∧ Below w.heap.size w w' := by
  obtain ⟨i0, hi, hz0, hz1, hz2⟩ := info_parts info5
  have HI := Lib.hid (fun w => gives_some (intC_pos_len N) (int_any N n0 n1 w))
  have HT := Lib.hid (fun w h => gives_some (textC_pos_len l) (text_any ao n c l w (by omega) hl h))
  have hu := fun w => gives_some (uintC_pos_len M.toNat) (uint_any M.toNat (by omega) w)
  rw [show ((M.toNat : Nat) : Int) = M by omega] at hu
  have HU := Lib.hid hu
  have li := intC_len N n0 n1
  have lt := textC_len l
  have lu := uintC_len M.toNat (by omega)
  have lt0 := textC_pos_len l
  have lu0 := uintC_pos_len M.toNat
  clear hu
  generalize intC N = I at *
  generalize textC l = T at *
  generalize uintC M.toNat = U at *
  rw [hl] at lt
  obtain ⟨b0, b1, b2⟩ := box_cells w (.int .i64 N) (.slice ao n c) (.int .u64 M) 48
  have hA : Below w.heap.size w (w.alloc (.cells #[.int .i64 N, .slice ao n c, .int .u64 M] 48)).drew := ((Below.refl _ _).alloc (Nat.le_refl _) _).drew
  have HR := Lib.hid hR
  clear hR n0 n1 m0 m1
  go_enter Try.func27, Try.ntmps27
  go_wp2_with fail
  go_region_held3 (fun w' => w'.cell? ⟨w.heap.size, 0, none⟩ = some (.int .i64 N) ∧ w'.cell? ⟨w.heap.size, 1, none⟩ = some (.slice ao n c) ∧ w'.cell? ⟨w.heap.size, 2, none⟩ = some (.int .u64 M))
    (first | exact ⟨b0, b1, b2⟩ | exact ⟨k10, k11, k12⟩ | exact ⟨k20, k21, k22⟩ | exact ⟨k30, k31, k32⟩)
    (first
      | (go_at_call 12; refine (HI.out _).mono ?_; rintro e w1 ⟨g1, c1, rfl, ⟨ho1, _⟩, hB1⟩; have k10 := (hB1.cell (p := ⟨w.heap.size, 0, none⟩) (by simp)).trans b0; have k11 := (hB1.cell (p := ⟨w.heap.size, 1, none⟩) (by simp)).trans b1; have k12 := (hB1.cell (p := ⟨w.heap.size, 2, none⟩) (by simp)).trans b2; have s1 := hB1.size)
      | (go_at_call 13; refine (HT.out _ ((HR.out.on hA (Nat.le_refl _)).on hB1 (Nat.le_refl _))).mono ?_; rintro e w2 ⟨g2, c2, rfl, ⟨_, hr2⟩, hB2⟩; have k20 := (hB2.cell (p := ⟨w.heap.size, 0, none⟩) (by simp at s1; simp; omega)).trans k10; have k21 := (hB2.cell (p := ⟨w.heap.size, 1, none⟩) (by simp at s1; simp; omega)).trans k11; have k22 := (hB2.cell (p := ⟨w.heap.size, 2, none⟩) (by simp at s1; simp; omega)).trans k12; have ho2 := (ho1.on hB2).base (C := w.heap.size) (by simp); have gl := (World.ownsRow.lt ho1 g1 rfl).1; simp at gl; have s2 := hB2.size; simp at s1; have hgb : w.heap.size < w2.heap.size := by omega)
      | (refine step_append_lies _ (by rfl) (.tmp 6) (.tmp 9) 23 (by rfl) w.heap.size 5 i0 _ 1 1 Try.underlying23 hi hz0 hz1 hz2 (by rfl) (by decide) _ I.length (bs I) (by rfl) ho2 ⟨g2, 0, none⟩ T.length c2 (bs T) (by rfl) (by simp [bs]) (rd_cells hr2) (bs_one T) lt0 (by unfold maxLen; omega) (by omega) (by omega) w2.heap.size (by rfl) ?_; intro g3 c3 w3 hown3 hgrow3 _ _; have k30 := (hgrow3.cell_far ⟨w.heap.size, 0, none⟩ hgb (by simp [Value.ownBlock]; omega)).trans k20; have k31 := (hgrow3.cell_far ⟨w.heap.size, 1, none⟩ hgb (by simp [Value.ownBlock]; omega)).trans k21; have k32 := (hgrow3.cell_far ⟨w.heap.size, 2, none⟩ hgb (by simp [Value.ownBlock]; omega)).trans k22))
  have ho3 := Lib.hid (Own.put (l := I) (m := T) hown3 rfl rfl)
  have hb2 : Below w.heap.size w w2 := (hA.trans (hB1.mono (by simp))).trans (hB2.mono (by omega))
  have hB3 : Below w.heap.size w w3 := hb2.grown hgrow3 hb2.size (fun k hk => (World.ownsRow.lt ho2 k hk).1)
  clear hown3 hgrow3 ho2 ho1 hr2 hB1 hB2 hb2 hA k10 k11 k12 k20 k21 k22 b0 b1 b2
  have hs3 := hB3.size
  go_wp2_with fail
  refine (HU.out w3).mono ?_
  rintro e w4 ⟨g4, c4, rfl, ⟨_, hr4⟩, hB4⟩
  have ho4 := Lib.hid (ho3.out.on hB4)
  have hb4 := hB3.trans (hB4.mono hs3)
  have hs4 := hb4.size
  have Hr4 := Lib.hid (rd_cells hr4)
  clear hr4 hB4 ho3 hB3 HU HT HI
  go_wp2_with (at_builtin; refine wpList_append_own _ rfl (.tmp 11) (.tmp 14) 23 rfl w.heap.size 5 i0 _ 1 1 Try.underlying23 hi hz0 hz1 hz2 rfl (by decide) _ (I.length + T.length) (bs (I ++ T)) rfl (by have := ho4.out; unfold Own at this; rwa [List.length_append] at this) ⟨g4, 0, none⟩ U.length c4 (bs U) rfl (by simp [bs]) Hr4.out (bs_one U) (by unfold maxLen; omega) (by omega) hs4 ?_; intro v5 w5 hown5 hgrow5 _)
  have hB5 : Below w.heap.size w w5 := hb4.grown hgrow5 hs4 (fun k hk => (World.ownsRow.lt ho4.out k hk).1)
  go_ret
  exact ⟨v5, rfl, Own.put (l := I ++ T) (m := U) hown5 (by simp) rfl, hB5⟩
end Go.Proofs.Ytnjapbfnodfgpaa.Rk
