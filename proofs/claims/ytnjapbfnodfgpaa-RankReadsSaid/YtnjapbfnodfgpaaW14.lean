/- The document's examples. -/
import Derived.Test.YtnjapbfnodfgpaaW13
namespace Go.Proofs.Ytnjapbfnodfgpaa.Rk
open Go Go.RowKit
theorem rd_lit (w : World) (l : List Int) (hm : l.length ≤ maxLen) : Rd (w.alloc (.cells (bs l).toArray 5)) (some ⟨w.heap.size, 0, none⟩) l := by
  have h := World.ownsRow_lit (base := 0) (e := 5) (size := 1) w (bs l).toArray l.length (Nat.zero_le _) hm (by simp [bs])
  exact own_rd h rfl
theorem Own.cap {w : World} {B : Nat} {v : Value} {l : List Int} (h : Own w B v l) : ∃ ao c, v = .slice ao l.length c ∧ Rd w ao l ∧ l.length ≤ c ∧ c ≤ maxLen := by
  obtain ⟨ao, c, rfl, hr⟩ := h.rd
  refine ⟨ao, c, rfl, hr, ?_⟩
  unfold Own at h
  rcases h.2 with ⟨h1, h2⟩ | ⟨_, _, _, h1, _, _, h2, h3, _⟩
  · simp only [Value.slice.injEq] at h1
    rw [h1.2.2, h1.2.1]
    exact ⟨Nat.le_refl _, Nat.zero_le _⟩
  · simp only [Value.slice.injEq] at h1
    rw [h1.2.2]
    exact ⟨h2, h3⟩
/-- A call that answers bytes of its own, as a reader takes them. -/
def Gives (f : FuncId) (args : Array Value) (l : List Int) (w : World) : Prop :=
  Calls Try.prog f args w fun e w' => ∃ ao c, e = .returned (.slice ao l.length c) ∧ (Own w' w.heap.size (.slice ao l.length c) l ∧ Rd w' ao l ∧ l.length ≤ c ∧ c ≤ maxLen) ∧ Below w.heap.size w w'
theorem gives {f : FuncId} {args : Array Value} {l : List Int} {w : World} (h : Calls Try.prog f args w fun e w' => ∃ v, e = .returned v ∧ Own w' w.heap.size v l ∧ Below w.heap.size w w') : Gives f args l w := by
  refine h.mono ?_
  rintro e w' ⟨v, rfl, ho, hb⟩
  obtain ⟨ao, c, rfl, hr, hc⟩ := ho.cap
  exact ⟨ao, c, rfl, ⟨ho, hr, hc⟩, hb⟩
theorem uint_gives (n : Nat) (hn : n < 18446744073709551616) (w : World) : Gives 11 #[.int .u64 n] (uintC n) w := gives (uint_any n hn w)
theorem int_gives (n : Int) (h0 : -9223372036854775808 ≤ n) (h1 : n ≤ 9223372036854775807) (w : World) : Gives 12 #[.int .i64 n] (intC n) w := gives (int_any n h0 h1 w)
theorem text_gives (ao : Option Addr) (n c : Nat) (l : List Int) (w : World) (hn : n ≤ 1099511627776) (hl : l.length = n) (ha : Rd w ao l) : Gives 13 #[.slice ao n c] (textC l) w := gives (text_any ao n c l w hn hl ha)
/-- SameBytes against a list that is written out. -/
theorem same_lit (ao : Option Addr) (c : Nat) (l : List Int) (w : World) (hm : l.length ≤ maxLen) (ha : Rd w ao l) :
    Calls Try.prog 14 #[.slice ao l.length c, .slice (some ⟨w.heap.size, 0, none⟩) l.length l.length] (w.alloc (.cells (bs l).toArray 5)) fun e w' => e = .returned (.bool true) ∧ Below w.heap.size w w' := by
  have hb : Below w.heap.size w (w.alloc (.cells (bs l).toArray 5)) := (Below.refl _ _).alloc (Nat.le_refl _) _
  refine (same_any ao _ c l.length l l _ hm (ha.on hb (Nat.le_refl _)) (rd_lit w l hm)).mono ?_
  rintro e w' ⟨rfl, hB⟩
  exact ⟨ret_bool (decide_eq_true rfl), hb.trans (hB.mono (by simp))⟩
theorem ex1 : tri .i64 (riR [17, 5, 153]) = .tuple #[.int .i64 5, .int .i64 2, .int .i64 0] := rfl
theorem ex2 : uintC (258 : Nat) = [2, 1, 2] := rfl
theorem ex3 : intC (-6) = [14, 250] := rfl
theorem ex4 : textC [97, 0] = [97, 0, 255, 0, 0] := rfl
set_option maxHeartbeats 2000000 in
theorem awake_any (w : World) : Calls Try.prog 9 #[] w fun e w' => e = .returned (.bool true) ∧ Below w.heap.size w w' := by
  have H1 := Lib.hid (ri_any (some ⟨w.heap.size, 0, none⟩) 3 3 [17, 5, 153] _ (by omega) (by unfold maxLen; omega) rfl (rd_lit w [17, 5, 153] (by unfold maxLen; simp)) (by simp))
  go_enter Try.func9, Try.ntmps9
  go_wp2_with fail
  refine H1.out.mono ?_
  rw [ex1]
  rintro e w1 ⟨rfl, hB1⟩
  have hb1 : Below w.heap.size w w1 := ((Below.refl _ _).alloc (Nat.le_refl _) _).trans (hB1.mono (by simp))
  clear hB1 H1
  have H2 := Lib.hid (uint_gives 258 (by omega) w1)
  go_wp2_with fail
  refine H2.out.mono ?_
  rw [ex2]
  clear H2
  rintro e w2 ⟨ao, c, rfl, hr, hB2⟩
  have hb2 := hb1.trans (hB2.mono hb1.size)
  have H3 := Lib.hid (same_lit ao c _ w2 (by unfold maxLen; simp) hr.2.1)
  clear hB2 hr hb1
  go_wp2_with fail
  refine H3.out.mono ?_
  clear H3
  rintro e w3 ⟨rfl, hB3⟩
  have hb3 := hb2.trans (hB3.mono hb2.size)
  clear hB3 hb2
  have H4 := Lib.hid (int_gives (-6) (by omega) (by omega) w3)
  go_wp2_with fail
  refine H4.out.mono ?_
  rw [ex3]
  clear H4
  rintro e w4 ⟨ao4, c4, rfl, hr4, hB4⟩
  have hb4 := hb3.trans (hB4.mono hb3.size)
  have H5 := Lib.hid (same_lit ao4 c4 _ w4 (by unfold maxLen; simp) hr4.2.1)
  clear hB4 hr4 hb3
  go_wp2_with fail
  refine H5.out.mono ?_
  clear H5
  rintro e w5 ⟨rfl, hB5⟩
  have hb5 := hb4.trans (hB5.mono hb4.size)
  clear hB5 hb4
  have H6 := Lib.hid (text_gives (some ⟨w5.heap.size, 0, none⟩) 2 2 [97, 0] _ (by omega) rfl (rd_lit w5 [97, 0] (by unfold maxLen; simp)))
  go_wp2_with fail
  refine H6.out.mono ?_
  rw [ex4]
  clear H6
  rintro e w6 ⟨ao6, c6, rfl, hr6, hB6⟩
  have hb6 : Below w.heap.size w w6 := (hb5.alloc hb5.size _).trans (hB6.mono (by simp; have := hb5.size; omega))
  have H7 := Lib.hid (same_lit ao6 c6 _ w6 (by unfold maxLen; simp) hr6.2.1)
  clear hB6 hr6 hb5
  go_wp2_with fail
  refine H7.out.mono ?_
  clear H7
  rintro e w7 ⟨rfl, hB7⟩
  have hb7 := hb6.trans (hB7.mono hb6.size)
  clear hB7 hb6
  go_wp2_with fail
  go_ret
  exact ⟨rfl, hb7⟩
end Go.Proofs.Ytnjapbfnodfgpaa.Rk
